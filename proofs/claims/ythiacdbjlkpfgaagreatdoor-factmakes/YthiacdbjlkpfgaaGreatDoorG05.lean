import Derived.Test.YthiacdbjlkpfgaaGreatDoorG04
import Derived.Test.YthiacdbjlkpfgaaGreatDoorG03
import Derived.WalkKit
import Derived.WalkSpells
import Derived.ProofKit
import Derived.Below
import Derived.Laws.MathBits
import Derived.Deep.QuietTactic
import Derived.BigQuiet
namespace Go.Proofs.YthiacdbjlkpfgaaGreatDoor
open Go.RowKit
theorem up4 : up 4#3 = 4 := rfl
theorem up1 : up 1#3 = 1 := rfl
theorem told_j (w : World) : Calls Tryz.prog 28 #[.agg #[.int .i64 (up (ofV 2).s), .bool (ofV 2).k, .int .i64 (ofV 2).n, .int .i64 (ofV 2).lo, .int .i64 (ofV 2).hi, .int .i64 (up (ofV 2).p)], .agg #[.int .i64 (up (ofV 4).s), .bool (ofV 4).k, .int .i64 (ofV 4).n, .int .i64 (ofV 4).lo, .int .i64 (ofV 4).hi, .int .i64 (up (ofV 4).p)]] w fun e w' => e = .returned (.agg #[.int .i64 4, .bool false, .int .i64 0, .int .i64 2, .int .i64 4, .int .i64 1]) ∧ Below w.heap.size w w' := by
  have h := join_V (ofV 2) (ofV 4) w (by decide) (by decide)
  have e : joinV (ofV 2) (ofV 4) = ⟨4#3, false, 0, 2, 4, 1#3⟩ := V.ext' (by decide) (by decide) (by decide) (by decide) (by decide) (by decide)
  rw [e] at h
  dsimp only at h
  rw [up4, up1] at h
  exact h
theorem told_m (w : World) : Calls Tryz.prog 30 #[.agg #[.int .i64 (up (ofV 2).s), .bool (ofV 2).k, .int .i64 (ofV 2).n, .int .i64 (ofV 2).lo, .int .i64 (ofV 2).hi, .int .i64 (up (ofV 2).p)], .agg #[.int .i64 (up (ofV 3).s), .bool (ofV 3).k, .int .i64 (ofV 3).n, .int .i64 (ofV 3).lo, .int .i64 (ofV 3).hi, .int .i64 (up (ofV 3).p)]] w fun e w' => e = .returned (.tuple #[.agg #[.int .i64 0, .bool false, .int .i64 0, .int .i64 0, .int .i64 0, .int .i64 0], .bool false]) ∧ Below w.heap.size w w' := by
  have h := meet_V (ofV 2) (ofV 3) w (by decide) (by decide)
  have e : meetV (ofV 2) (ofV 3) = (zeroV, false) := by unfold meetV; rw [if_neg (by decide)]
  rw [e] at h
  exact h
set_option maxRecDepth 100000 in
set_option maxHeartbeats 16000000 in
theorem told_any (w : World) : Calls Tryz.prog 8 #[] w fun e w' => e = .returned (.bool true) ∧ Below w.heap.size w w' := by
  have oo := of_V
  have tj := told_j
  have tm := told_m
  have rr := right_V
  have ta := any_V
  have hr : rightR (up anyV.s) anyV.k anyV.n anyV.lo anyV.hi (up anyV.p) = true := by decide +kernel
  have hz : rightR 0 false 0 0 0 0 = false := by decide +kernel
  generalize ofV = F at *
  generalize anyV = VA at *
  generalize rightR = RR at *
  go_enter Tryz.func8, Tryz.ntmps8
  go_upto_region 2 with (first | (go_at_call 29; refine (oo _ _).mono ?_; rintro e wB ⟨rfl, hB⟩; first | (have hAB := hA.trans (hB.mono hA.size); clear hA hB) | (have hA := hB; clear hB)) | (go_at_call 28; refine (tj _).mono ?_; rintro e wC ⟨rfl, hC⟩))
  go_name_world W hW
  have HA : Hid (Br W wC.heap.size 4 false 0 2 4 1 ∧ Below w.heap.size w W ∧ w.heap.size ≤ wC.heap.size) := by
    rw [← hW]
    have u2 := hAB.trans (hC.mono hAB.size)
    exact ⟨Br.new _ _ _ _ _ _ _ _, u2.alloc u2.size _, u2.size⟩
  clear hW hAB hC tj
  generalize wC.heap.size = T at *
  go_upto_region 3 with (first | (go_at_call 29; refine (oo _ _).mono ?_; rintro e wB ⟨rfl, hB⟩; first | (have hAB := hA.trans (hB.mono hA.size); clear hA hB) | (have hA := hB; clear hB)) | (go_at_call 30; refine (tm _).mono ?_; rintro e wC ⟨rfl, hC⟩))
  go_name_world W2 hW2
  have HB : Hid (Br W2 T 4 false 0 2 4 1 ∧ Below w.heap.size w W2) := by
    rw [← hW2]
    have u2 := hAB.trans (hC.mono hAB.size)
    have u3 := u2.alloc u2.size (.cells #[.int .i64 0, .bool false, .int .i64 0, .int .i64 0, .int .i64 0, .int .i64 0] 32)
    exact ⟨HA.out.1.keep u3, HA.out.2.1.trans (u3.mono HA.out.2.1.size)⟩
  clear hW2 hAB hC oo tm HA
  have a0 := HB.out.1.c0
  have a1 := HB.out.1.c1
  have a2 := HB.out.1.c2
  have a3 := HB.out.1.c3
  have a4 := HB.out.1.c4
  have a5 := HB.out.1.c5
  go_wp2_with (first | (go_at_call 32; refine (ta _).mono ?_; rintro e wA ⟨rfl, hA⟩) | (go_at_call 31; refine (rr _ _ _ _ _ _ _).mono ?_; rintro e wB ⟨rfl, hB⟩; have hAB := hA.trans (hB.mono hA.size); clear hA hB; have hA := hAB; clear hAB))
  go_ret
  exact ⟨rfl, HB.out.2.trans (hA.mono HB.out.2.size)⟩
end Go.Proofs.YthiacdbjlkpfgaaGreatDoor
namespace Go.Proofs.YthiacdbjlkpfgaaGreatDoor
open Go.RowKit
/-- what two numbers come to -/
def arith (op a b : Int) : Int × Bool :=
  if op = 4 then (wrap64 (a + b), true)
  else if op = 5 then (wrap64 (a - b), true)
  else if op = 6 then (wrap64 (a * b), true)
  else if op = 7 then (if b = 0 then (0, false) else (wrap64 (a.tdiv b), true))
  else if op = 8 then (if b = 0 then (0, false) else (a.tmod b, true))
  else if op = 9 then (bits .and .i64 a b, true)
  else if op = 10 then (bits .xor .i64 a b, true)
  else if op = 11 then ((if a < b then 1 else 0), true)
  else if op = 12 then ((if a = b then 1 else 0), true)
  else (0, false)
set_option maxRecDepth 100000 in
set_option maxHeartbeats 4000000 in
theorem arith_ref (op a b : Int) (w : World) (ha : i64 a) (hb : i64 b) : Calls Tryz.prog 87 #[.int .i64 op, .int .i64 a, .int .i64 b] w fun e w' => e = .returned (.tuple #[.int .i64 (arith op a b).1, .bool (arith op a b).2]) ∧ w' = w := by
  unfold i64 at ha hb
  obtain ⟨a1, a2⟩ := ha
  obtain ⟨b1, b2⟩ := hb
  by_cases h4 : op = 4
  · subst h4; go_enter Tryz.func87, Tryz.ntmps87; go_wp2; go_ret2; exact ⟨by simp [arith], rfl⟩
  by_cases h5 : op = 5
  · subst h5; go_enter Tryz.func87, Tryz.ntmps87; go_wp2; go_ret2; exact ⟨by simp [arith], rfl⟩
  by_cases h6 : op = 6
  · subst h6; go_enter Tryz.func87, Tryz.ntmps87; go_wp2; go_ret2; exact ⟨by simp [arith], rfl⟩
  by_cases h7 : op = 7
  · subst h7
    by_cases hb0 : b = 0
    · subst hb0; go_enter Tryz.func87, Tryz.ntmps87; go_wp2; go_ret2; exact ⟨by simp [arith], rfl⟩
    by_cases hb1 : b = -1
    · subst hb1; go_enter Tryz.func87, Tryz.ntmps87; go_wp2; go_ret2; exact ⟨by simp [arith, Int.tdiv_neg], rfl⟩
    go_enter Tryz.func87, Tryz.ntmps87; go_wp2; go_ret2; exact ⟨by simp [arith, hb0], rfl⟩
  by_cases h8 : op = 8
  · subst h8
    by_cases hb0 : b = 0
    · subst hb0; go_enter Tryz.func87, Tryz.ntmps87; go_wp2; go_ret2; exact ⟨by simp [arith], rfl⟩
    by_cases hb1 : b = -1
    · subst hb1; go_enter Tryz.func87, Tryz.ntmps87; go_wp2; go_ret2; exact ⟨by simp [arith, Int.tmod_neg, Int.tmod_one], rfl⟩
    go_enter Tryz.func87, Tryz.ntmps87; go_wp2; go_ret2; exact ⟨by simp [arith, hb0], rfl⟩
  by_cases h9 : op = 9
  · subst h9; go_enter Tryz.func87, Tryz.ntmps87; go_wp2; go_ret2; exact ⟨by simp [arith], rfl⟩
  by_cases h10 : op = 10
  · subst h10; go_enter Tryz.func87, Tryz.ntmps87; go_wp2; go_ret2; exact ⟨by simp [arith], rfl⟩
  by_cases h11 : op = 11
  · subst h11
    by_cases hl : a < b
    · go_enter Tryz.func87, Tryz.ntmps87; go_wp2; go_ret2; exact ⟨by simp [arith, hl], rfl⟩
    · go_enter Tryz.func87, Tryz.ntmps87; go_wp2; go_ret2; exact ⟨by simp [arith, hl], rfl⟩
  by_cases h12 : op = 12
  · subst h12
    by_cases hl : a = b
    · subst hl; go_enter Tryz.func87, Tryz.ntmps87; go_wp2; go_ret2; exact ⟨by simp [arith], rfl⟩
    · go_enter Tryz.func87, Tryz.ntmps87; go_wp2; go_ret2; exact ⟨by simp [arith, hl], rfl⟩
  go_enter Tryz.func87, Tryz.ntmps87; go_wp2; go_ret2; exact ⟨by simp [arith, *], rfl⟩
set_option maxRecDepth 100000 in
set_option maxHeartbeats 4000000 in
theorem arith_vm (op a b : Int) (w : World) (ha : i64 a) (hb : i64 b) : Calls Tryz.prog 77 #[.int .i64 op, .int .i64 a, .int .i64 b] w fun e w' => e = .returned (.tuple #[.int .i64 (arith op a b).1, .bool (arith op a b).2]) ∧ w' = w := by
  unfold i64 at ha hb
  obtain ⟨a1, a2⟩ := ha
  obtain ⟨b1, b2⟩ := hb
  by_cases h4 : op = 4
  · subst h4; go_enter Tryz.func77, Tryz.ntmps77; go_wp2; go_ret2; exact ⟨by simp [arith], rfl⟩
  by_cases h5 : op = 5
  · subst h5; go_enter Tryz.func77, Tryz.ntmps77; go_wp2; go_ret2; exact ⟨by simp [arith], rfl⟩
  by_cases h6 : op = 6
  · subst h6; go_enter Tryz.func77, Tryz.ntmps77; go_wp2; go_ret2; exact ⟨by simp [arith], rfl⟩
  by_cases h7 : op = 7
  · subst h7
    by_cases hb0 : b = 0
    · subst hb0; go_enter Tryz.func77, Tryz.ntmps77; go_wp2; go_ret2; exact ⟨by simp [arith], rfl⟩
    by_cases hb1 : b = -1
    · subst hb1; go_enter Tryz.func77, Tryz.ntmps77; go_wp2; go_ret2; exact ⟨by simp [arith, Int.tdiv_neg], rfl⟩
    go_enter Tryz.func77, Tryz.ntmps77; go_wp2; go_ret2; exact ⟨by simp [arith, hb0], rfl⟩
  by_cases h8 : op = 8
  · subst h8
    by_cases hb0 : b = 0
    · subst hb0; go_enter Tryz.func77, Tryz.ntmps77; go_wp2; go_ret2; exact ⟨by simp [arith], rfl⟩
    by_cases hb1 : b = -1
    · subst hb1; go_enter Tryz.func77, Tryz.ntmps77; go_wp2; go_ret2; exact ⟨by simp [arith, Int.tmod_neg, Int.tmod_one], rfl⟩
    go_enter Tryz.func77, Tryz.ntmps77; go_wp2; go_ret2; exact ⟨by simp [arith, hb0], rfl⟩
  by_cases h9 : op = 9
  · subst h9; go_enter Tryz.func77, Tryz.ntmps77; go_wp2; go_ret2; exact ⟨by simp [arith], rfl⟩
  by_cases h10 : op = 10
  · subst h10; go_enter Tryz.func77, Tryz.ntmps77; go_wp2; go_ret2; exact ⟨by simp [arith], rfl⟩
  by_cases h11 : op = 11
  · subst h11
    by_cases hl : a < b
    · go_enter Tryz.func77, Tryz.ntmps77; go_wp2; go_ret2; exact ⟨by simp [arith, hl], rfl⟩
    · go_enter Tryz.func77, Tryz.ntmps77; go_wp2; go_ret2; exact ⟨by simp [arith, hl], rfl⟩
  by_cases h12 : op = 12
  · subst h12
    by_cases hl : a = b
    · subst hl; go_enter Tryz.func77, Tryz.ntmps77; go_wp2; go_ret2; exact ⟨by simp [arith], rfl⟩
    · go_enter Tryz.func77, Tryz.ntmps77; go_wp2; go_ret2; exact ⟨by simp [arith, hl], rfl⟩
  go_enter Tryz.func77, Tryz.ntmps77; go_wp2; go_ret2; exact ⟨by simp [arith, *], rfl⟩
end Go.Proofs.YthiacdbjlkpfgaaGreatDoor
namespace Go.Proofs.YthiacdbjlkpfgaaGreatDoor
open Go.RowKit
def oneOk (op : Int) : Bool := (op == 2) || (op == 3)
def oneI (op : Int) (ai : Bool) : Bool := oneOk op && ai
def oneN (op : Int) (ai : Bool) (an : Int) : Int := if ai = true then (if op = 2 then an else if op = 3 then wrap64 (-an) else 0) else 0
def twoOk (op : Int) (bi : Bool) (bn : Int) : Bool := decide (4 ≤ op) && decide (op ≤ 12) && !(((op == 7) || (op == 8)) && bi && (bn == 0))
def twoI (op : Int) (ai bi : Bool) (bn : Int) : Bool := twoOk op bi bn && ai && bi
def twoN (op : Int) (ai : Bool) (an : Int) (bi : Bool) (bn : Int) : Int := if twoI op ai bi bn = true then (arith op an bn).1 else 0
def brOk (ai : Bool) (an : Int) (yes : Bool) : Bool := if yes = true then !(ai && (an == 0)) else !(ai && (an != 0))
def brI (ai : Bool) (an : Int) (yes : Bool) : Bool := if yes = true then ai && (an != 0) else !(ai && (an != 0))
def brN (ai : Bool) (an : Int) (yes : Bool) : Int := if yes = true then (if ai = true then an else 0) else 0
theorem kis_any (ai : Bool) (an n : Int) (w : World) : Calls Tryz.prog 76 #[.agg #[.bool ai, .int .i64 an], .int .i64 n] w fun e w' => e = .returned (.bool (ai && (an == n))) ∧ New1 w w' := by
  cases ai <;> by_cases h : an = n <;> (try subst h) <;>
  · go_enter Tryz.func76, Tryz.ntmps76
    go_wp2
    go_ret
    exact ⟨by simp [*], _, rfl⟩
set_option maxHeartbeats 2000000 in
theorem kone_any (op : Int) (ai : Bool) (an : Int) (w : World) : Calls Tryz.prog 16 #[.int .i64 op, .agg #[.bool ai, .int .i64 an]] w fun e w' => e = .returned (.tuple #[.agg #[.bool (oneI op ai), .int .i64 (oneN op ai an)], .bool (oneOk op)]) ∧ Below w.heap.size w w' := by
  by_cases q2 : op = 2
  · subst q2
    cases ai <;>
    · go_enter Tryz.func16, Tryz.ntmps16
      go_wp2_with (first | (go_at_call 53; refine (krt_any _ _ _).mono ?_; rintro e w' ⟨rfl, hb⟩; obtain ⟨hc, hf⟩ := bcell hb; have hz := hb.size; simp at hz) | (go_at_call 52; refine (kof_any _ _).mono ?_; rintro e w' ⟨rfl, o, rfl⟩) | (go_at_call 51; refine (kany_any _).mono ?_; rintro e w' ⟨rfl, o, rfl⟩))
      all_goals (exact bodyPost_ret (by simp [results, Tryz.results16, go_sem, *]; try rfl) rfl ⟨by simp [oneI, oneN, oneOk, cleanN, *], (by repeat (first | exact Below.refl _ _ | (refine Below.drew ?_) | (refine Below.setCell ?_ (by first | omega | (simp; done) | (simp; omega)) _) | (refine Below.alloc ?_ (by first | omega | (simp; done) | (simp; omega)) _) | (refine Below.trans ?_ (Below.mono (by assumption) (by first | omega | (simp; done) | (simp; omega))))))⟩)
  by_cases q3 : op = 3
  · subst q3
    cases ai <;>
    · go_enter Tryz.func16, Tryz.ntmps16
      go_wp2_with (first | (go_at_call 53; refine (krt_any _ _ _).mono ?_; rintro e w' ⟨rfl, hb⟩; obtain ⟨hc, hf⟩ := bcell hb; have hz := hb.size; simp at hz) | (go_at_call 52; refine (kof_any _ _).mono ?_; rintro e w' ⟨rfl, o, rfl⟩) | (go_at_call 51; refine (kany_any _).mono ?_; rintro e w' ⟨rfl, o, rfl⟩))
      all_goals (exact bodyPost_ret (by simp [results, Tryz.results16, go_sem, *]; try rfl) rfl ⟨by simp [oneI, oneN, oneOk, cleanN, *], (by repeat (first | exact Below.refl _ _ | (refine Below.drew ?_) | (refine Below.setCell ?_ (by first | omega | (simp; done) | (simp; omega)) _) | (refine Below.alloc ?_ (by first | omega | (simp; done) | (simp; omega)) _) | (refine Below.trans ?_ (Below.mono (by assumption) (by first | omega | (simp; done) | (simp; omega))))))⟩)
  have b2 : (op != 2) = true := by simp [q2]
  have b3 : (op != 3) = true := by simp [q3]
  have c2 : (op == 2) = false := by simp [q2]
  have c3 : (op == 3) = false := by simp [q3]
  cases ai <;>
  · go_enter Tryz.func16, Tryz.ntmps16
    go_wp2_with (first | (go_at_call 53; refine (krt_any _ _ _).mono ?_; rintro e w' ⟨rfl, hb⟩; obtain ⟨hc, hf⟩ := bcell hb; have hz := hb.size; simp at hz) | (go_at_call 52; refine (kof_any _ _).mono ?_; rintro e w' ⟨rfl, o, rfl⟩) | (go_at_call 51; refine (kany_any _).mono ?_; rintro e w' ⟨rfl, o, rfl⟩))
    all_goals (exact bodyPost_ret (by simp [results, Tryz.results16, go_sem, *]; try rfl) rfl ⟨by simp [oneI, oneN, oneOk, *], (by repeat (first | exact Below.refl _ _ | (refine Below.drew ?_) | (refine Below.setCell ?_ (by first | omega | (simp; done) | (simp; omega)) _) | (refine Below.alloc ?_ (by first | omega | (simp; done) | (simp; omega)) _) | (refine Below.trans ?_ (Below.mono (by assumption) (by first | omega | (simp; done) | (simp; omega))))))⟩)
set_option maxHeartbeats 2000000 in
theorem kbr_any (ai : Bool) (an : Int) (yes : Bool) (w : World) : Calls Tryz.prog 43 #[.agg #[.bool ai, .int .i64 an], .bool yes] w fun e w' => e = .returned (.tuple #[.agg #[.bool (brI ai an yes), .int .i64 (brN ai an yes)], .bool (brOk ai an yes)]) ∧ Below w.heap.size w w' := by
  cases yes
  · have e1 : meetI ai an true 0 = brI ai an false := by cases ai <;> by_cases h : an = 0 <;> simp [meetI, brI, h, bne]
    have e2 : meetN ai an true 0 = brN ai an false := by cases ai <;> by_cases h : an = 0 <;> simp [meetN, brN, h]
    have e3 : meetOk ai an true 0 = brOk ai an false := by cases ai <;> by_cases h : an = 0 <;> simp [meetOk, brOk, h]
    go_enter Tryz.func43, Tryz.ntmps43
    go_wp2
    go_region_with (first | (go_at_call 67; refine (kmeet_any _ _ _ _ _).mono ?_; rintro e w' ⟨rfl, hb⟩; obtain ⟨hc, hf⟩ := bcell hb; have hz := hb.size; simp at hz) | (go_at_call 52; refine (kof_any _ _).mono ?_; rintro e w' ⟨rfl, o, rfl⟩))
    all_goals (go_wp2; exact bodyPost_ret (by simp [results, Tryz.results43, go_sem, *]; try rfl) rfl ⟨rfl, (by repeat (first | exact Below.refl _ _ | (refine Below.drew ?_) | (refine Below.setCell ?_ (by first | omega | (simp; done) | (simp; omega)) _) | (refine Below.alloc ?_ (by first | omega | (simp; done) | (simp; omega)) _) | (refine Below.trans ?_ (Below.mono (by assumption) (by first | omega | (simp; done) | (simp; omega))))))⟩)
  · cases ai <;> by_cases h : an = 0 <;> (try subst h) <;>
    · go_enter Tryz.func43, Tryz.ntmps43
      go_wp2_with (first | (go_at_call 53; refine (krt_any _ _ _).mono ?_; rintro e w' ⟨rfl, hb⟩; obtain ⟨hc, hf⟩ := bcell hb; have hz := hb.size; simp at hz) | (go_at_call 51; refine (kany_any _).mono ?_; rintro e w' ⟨rfl, o, rfl⟩) | (go_at_call 76; refine (kis_any _ _ _ _).mono ?_; rintro e w' ⟨rfl, o, rfl⟩))
      all_goals (exact bodyPost_ret (by simp [results, Tryz.results43, go_sem, *]; try rfl) rfl ⟨by simp [brI, brN, brOk, cleanN, *], (by repeat (first | exact Below.refl _ _ | (refine Below.drew ?_) | (refine Below.setCell ?_ (by first | omega | (simp; done) | (simp; omega)) _) | (refine Below.alloc ?_ (by first | omega | (simp; done) | (simp; omega)) _) | (refine Below.trans ?_ (Below.mono (by assumption) (by first | omega | (simp; done) | (simp; omega))))))⟩)
end Go.Proofs.YthiacdbjlkpfgaaGreatDoor
namespace Go.Proofs.YthiacdbjlkpfgaaGreatDoor
open Go.RowKit
theorem toInt64 (a : Int) (h0 : -9223372036854775808 ≤ a) (h1 : a ≤ 9223372036854775807) : (BitVec.ofInt 64 a).toInt = a := by
  rw [BitVec.toInt_ofInt, Int.bmod]
  split <;> omega
theorem msb64 (a : Int) (h0 : -9223372036854775808 ≤ a) (h1 : a ≤ 9223372036854775807) : (BitVec.ofInt 64 a).msb = decide (a < 0) := by
  rw [BitVec.msb_eq_toInt, toInt64 a h0 h1]
theorem bits_and_toInt (a b : Int) : bits .and .i64 a b = (BitVec.ofInt 64 a &&& BitVec.ofInt 64 b).toInt := wrap_toInt _
theorem bits_xor_toInt (a b : Int) : bits .xor .i64 a b = (BitVec.ofInt 64 a ^^^ BitVec.ofInt 64 b).toInt := wrap_toInt _
theorem and_neg (a b : Int) (h0 : -9223372036854775808 ≤ a) (h1 : a ≤ 9223372036854775807) (h2 : -9223372036854775808 ≤ b) (h3 : b ≤ 9223372036854775807) : bits .and .i64 a b < 0 ↔ (a < 0 ∧ b < 0) := by
  have h := BitVec.msb_eq_toInt (x := BitVec.ofInt 64 a &&& BitVec.ofInt 64 b)
  rw [BitVec.msb_and, msb64 a h0 h1, msb64 b h2 h3, ← bits_and_toInt] at h
  rw [← decide_eq_true_iff (p := bits .and .i64 a b < 0), ← h]
  simp
theorem xor_neg (a b : Int) (h0 : -9223372036854775808 ≤ a) (h1 : a ≤ 9223372036854775807) (h2 : -9223372036854775808 ≤ b) (h3 : b ≤ 9223372036854775807) : bits .xor .i64 a b < 0 ↔ ¬ (a < 0 ↔ b < 0) := by
  have h := BitVec.msb_eq_toInt (x := BitVec.ofInt 64 a ^^^ BitVec.ofInt 64 b)
  rw [BitVec.msb_xor, msb64 a h0 h1, msb64 b h2 h3, ← bits_xor_toInt] at h
  rw [← decide_eq_true_iff (p := bits .xor .i64 a b < 0), ← h]
  by_cases ha : a < 0 <;> by_cases hb : b < 0 <;> simp [ha, hb]
theorem and_zero (a : Int) : bits .and .i64 a 0 = 0 := by rw [bits_and_toInt]; simp
theorem zero_and (a : Int) : bits .and .i64 0 a = 0 := by rw [bits_and_toInt]; simp
theorem xor_zero (a : Int) (h0 : -9223372036854775808 ≤ a) (h1 : a ≤ 9223372036854775807) : bits .xor .i64 a 0 = a := by rw [bits_xor_toInt]; simpa using toInt64 a h0 h1
theorem zero_xor (a : Int) (h0 : -9223372036854775808 ≤ a) (h1 : a ≤ 9223372036854775807) : bits .xor .i64 0 a = a := by rw [bits_xor_toInt]; simpa using toInt64 a h0 h1
theorem and_i64 (a b : Int) : -9223372036854775808 ≤ bits .and .i64 a b ∧ bits .and .i64 a b ≤ 9223372036854775807 := by
  rw [bits_and_toInt]
  generalize BitVec.ofInt 64 a &&& BitVec.ofInt 64 b = x
  have h1 := BitVec.le_toInt x
  have h2 := BitVec.toInt_lt (x := x)
  omega
theorem xor_i64 (a b : Int) : -9223372036854775808 ≤ bits .xor .i64 a b ∧ bits .xor .i64 a b ≤ 9223372036854775807 := by
  rw [bits_xor_toInt]
  generalize BitVec.ofInt 64 a ^^^ BitVec.ofInt 64 b = x
  have h1 := BitVec.le_toInt x
  have h2 := BitVec.toInt_lt (x := x)
  omega
end Go.Proofs.YthiacdbjlkpfgaaGreatDoor
namespace Go.Proofs.YthiacdbjlkpfgaaGreatDoor
open Go.RowKit
/-- is it an int64, too -/
def fit (n : Int) : Bool := decide (-9223372036854775808 ≤ n) && decide (n ≤ 9223372036854775807)
def mn (a b c d : Int) : Int := min (min a b) (min c d)
def mx (a b c d : Int) : Int := max (max a b) (max c d)
def allP : Int × Int := (-9223372036854775808, 9223372036854775807)
def In (s : Int × Int) (x : Int) : Prop := s.1 ≤ x ∧ x ≤ s.2
def Wi (s t : Int × Int) : Prop := t.1 ≤ s.1 ∧ s.2 ≤ t.2
def sumsP (a b : Int × Int) : Int × Int :=
  if fit (a.1 + b.1) && fit (a.2 + b.2) then (a.1 + b.1, a.2 + b.2) else allP
def diffsP (a b : Int × Int) : Int × Int :=
  if fit (a.1 - b.2) && fit (a.2 - b.1) then (a.1 - b.2, a.2 - b.1) else allP
def prodsP (a b : Int × Int) : Int × Int :=
  if fit (a.1 * b.1) && fit (a.1 * b.2) && fit (a.2 * b.1) && fit (a.2 * b.2) then
    (mn (a.1 * b.1) (a.1 * b.2) (a.2 * b.1) (a.2 * b.2), mx (a.1 * b.1) (a.1 * b.2) (a.2 * b.1) (a.2 * b.2)) else allP
def quoP (a b : Int × Int) : Int × Int :=
  (mn (a.1.tdiv b.1) (a.1.tdiv b.2) (a.2.tdiv b.1) (a.2.tdiv b.2), mx (a.1.tdiv b.1) (a.1.tdiv b.2) (a.2.tdiv b.1) (a.2.tdiv b.2))
def belowP (b : Int × Int) : Int × Int := (b.1, min b.2 (-1))
def aboveP (b : Int × Int) : Int × Int := (max b.1 1, b.2)
def quotsP (a b : Int × Int) : (Int × Int) × Bool :=
  if a.1 = -9223372036854775808 ∧ b.1 ≤ -1 ∧ -1 ≤ b.2 then (allP, true)
  else if b.1 ≤ -1 ∧ 1 ≤ b.2 then ((min (quoP a (belowP b)).1 (quoP a (aboveP b)).1, max (quoP a (belowP b)).2 (quoP a (aboveP b)).2), true)
  else if b.1 ≤ -1 then (quoP a (belowP b), true)
  else if 1 ≤ b.2 then (quoP a (aboveP b), true)
  else ((0, 0), false)
def farP (b : Int × Int) : Int := max (-1 - min b.1 (-1)) (max b.2 1 - 1)
def remsP (a b : Int × Int) : (Int × Int) × Bool :=
  if b.1 = 0 ∧ b.2 = 0 then ((0, 0), false)
  else ((max (min a.1 0) (-(farP b)), min (max a.2 0) (farP b)), true)
def andsP (a b : Int × Int) : Int × Int :=
  if 0 ≤ a.1 ∧ 0 ≤ b.1 then (0, min a.2 b.2)
  else if 0 ≤ a.1 then (0, a.2)
  else if 0 ≤ b.1 then (0, b.2)
  else if a.2 < 0 ∧ b.2 < 0 then (-9223372036854775808, min a.2 b.2)
  else (-9223372036854775808, max a.2 b.2)
/-- the least 2^k - 1 that isn't below n -/
def onesI (n : Int) : Int := 2 ^ (bitLen n.toNat) - 1
def xorsP (a b : Int × Int) : Int × Int :=
  if 0 ≤ a.1 ∧ 0 ≤ b.1 then (0, onesI (max a.2 b.2))
  else if a.2 < 0 ∧ b.2 < 0 then (0, onesI (max (-1 - a.1) (-1 - b.1)))
  else if a.2 < 0 ∧ 0 ≤ b.1 then (-1 - onesI (max (-1 - a.1) b.2), -1)
  else if 0 ≤ a.1 ∧ b.2 < 0 then (-1 - onesI (max a.2 (-1 - b.1)), -1)
  else allP
def lessP (a b : Int × Int) : Int × Int :=
  if a.2 < b.1 then (1, 1) else if b.2 ≤ a.1 then (0, 0) else (0, 1)
def sameP (a b : Int × Int) : Int × Int :=
  if a.2 < b.1 ∨ b.2 < a.1 then (0, 0)
  else if a.1 = a.2 ∧ a.1 = b.1 ∧ a.2 = b.2 then (1, 1) else (0, 1)
/-- what comes of two Spans -/
def twoP (op : Int) (a b : Int × Int) : (Int × Int) × Bool :=
  if op = 4 then (sumsP a b, true)
  else if op = 5 then (diffsP a b, true)
  else if op = 6 then (prodsP a b, true)
  else if op = 7 then quotsP a b
  else if op = 8 then remsP a b
  else if op = 9 then (andsP a b, true)
  else if op = 10 then (xorsP a b, true)
  else if op = 11 then (lessP a b, true)
  else if op = 12 then (sameP a b, true)
  else ((0, 0), false)
theorem mul_hullR (x l h y : Int) (h1 : l ≤ y) (h2 : y ≤ h) : min (x * l) (x * h) ≤ x * y ∧ x * y ≤ max (x * l) (x * h) := by
  rcases Int.le_total 0 x with hx | hx
  · have e1 := Int.mul_le_mul_of_nonneg_left h1 hx
    have e2 := Int.mul_le_mul_of_nonneg_left h2 hx
    omega
  · have e1 := Int.mul_le_mul_of_nonpos_left hx h1
    have e2 := Int.mul_le_mul_of_nonpos_left hx h2
    omega
theorem mul_hullL (y l h x : Int) (h1 : l ≤ x) (h2 : x ≤ h) : min (l * y) (h * y) ≤ x * y ∧ x * y ≤ max (l * y) (h * y) := by
  have := mul_hullR y l h x h1 h2
  rw [Int.mul_comm y l, Int.mul_comm y h, Int.mul_comm y x] at this
  exact this
theorem mul_hull (a b : Int × Int) (x y : Int) (hx : In a x) (hy : In b y) :
    mn (a.1 * b.1) (a.1 * b.2) (a.2 * b.1) (a.2 * b.2) ≤ x * y ∧ x * y ≤ mx (a.1 * b.1) (a.1 * b.2) (a.2 * b.1) (a.2 * b.2) := by
  have e := mul_hullR x b.1 b.2 y hy.1 hy.2
  have e1 := mul_hullL b.1 a.1 a.2 x hx.1 hx.2
  have e2 := mul_hullL b.2 a.1 a.2 x hx.1 hx.2
  unfold mn mx
  omega
theorem tdiv_nn (a c : Int) (ha : 0 ≤ a) (hc : 0 < c) : 0 ≤ a.tdiv c := by
  rw [Int.tdiv_eq_ediv_of_nonneg ha]
  exact Int.ediv_nonneg ha (by omega)
theorem tdiv_up0 (a b c : Int) (ha : 0 ≤ a) (h : a ≤ b) (hc : 0 < c) : a.tdiv c ≤ b.tdiv c := by
  rw [Int.tdiv_eq_ediv_of_nonneg ha, Int.tdiv_eq_ediv_of_nonneg (by omega)]
  exact Int.ediv_le_ediv hc h
theorem tdiv_up (a b c : Int) (h : a ≤ b) (hc : 0 < c) : a.tdiv c ≤ b.tdiv c := by
  rcases Int.le_total 0 a with ha | ha
  · exact tdiv_up0 a b c ha h hc
  · rcases Int.le_total 0 b with hb | hb
    · have e1 := tdiv_nn b c hb hc
      have e2 := tdiv_nn (-a) c (by omega) hc
      rw [Int.neg_tdiv] at e2
      omega
    · have e := tdiv_up0 (-b) (-a) c (by omega) (by omega) hc
      rw [Int.neg_tdiv, Int.neg_tdiv] at e
      omega
theorem tdiv_den0 (a l y : Int) (ha : 0 ≤ a) (hl : 0 < l) (h : l ≤ y) : a.tdiv y ≤ a.tdiv l := by
  rw [Int.tdiv_eq_ediv_of_nonneg ha, Int.tdiv_eq_ediv_of_nonneg ha]
  refine Int.le_ediv_of_mul_le hl ?_
  have e1 : a / y * l ≤ a / y * y := Int.mul_le_mul_of_nonneg_left h (Int.ediv_nonneg ha (by omega))
  have e2 : a / y * y ≤ a := Int.ediv_mul_le a (by omega)
  omega
theorem div_pos (x l h y : Int) (hl : 0 < l) (h1 : l ≤ y) (h2 : y ≤ h) : min (x.tdiv l) (x.tdiv h) ≤ x.tdiv y ∧ x.tdiv y ≤ max (x.tdiv l) (x.tdiv h) := by
  rcases Int.le_total 0 x with hx | hx
  · have e1 := tdiv_den0 x l y hx hl h1
    have e2 := tdiv_den0 x y h hx (by omega) h2
    omega
  · have e1 := tdiv_den0 (-x) l y (by omega) hl h1
    have e2 := tdiv_den0 (-x) y h (by omega) (by omega) h2
    rw [Int.neg_tdiv, Int.neg_tdiv] at e1 e2
    omega
theorem div_neg (x l h y : Int) (hl : h < 0) (h1 : l ≤ y) (h2 : y ≤ h) : min (x.tdiv l) (x.tdiv h) ≤ x.tdiv y ∧ x.tdiv y ≤ max (x.tdiv l) (x.tdiv h) := by
  have e := div_pos x (-h) (-l) (-y) (by omega) (by omega) (by omega)
  rw [Int.tdiv_neg, Int.tdiv_neg, Int.tdiv_neg] at e
  omega
theorem div_num (y l h x : Int) (hy : y ≠ 0) (h1 : l ≤ x) (h2 : x ≤ h) : min (l.tdiv y) (h.tdiv y) ≤ x.tdiv y ∧ x.tdiv y ≤ max (l.tdiv y) (h.tdiv y) := by
  rcases Int.lt_or_gt_of_ne hy with hy | hy
  · have e1 := tdiv_up l x (-y) h1 (by omega)
    have e2 := tdiv_up x h (-y) h2 (by omega)
    rw [Int.tdiv_neg, Int.tdiv_neg] at e1 e2
    omega
  · have e1 := tdiv_up l x y h1 hy
    have e2 := tdiv_up x h y h2 hy
    omega
theorem quo_hull (a b : Int × Int) (x y : Int) (hb : 0 < b.1 ∨ b.2 < 0) (hx : In a x) (hy : In b y) : In (quoP a b) (x.tdiv y) := by
  obtain ⟨y1, y2⟩ := hy
  have e : min (x.tdiv b.1) (x.tdiv b.2) ≤ x.tdiv y ∧ x.tdiv y ≤ max (x.tdiv b.1) (x.tdiv b.2) := by
    rcases hb with hb | hb
    · exact div_pos x b.1 b.2 y hb y1 y2
    · exact div_neg x b.1 b.2 y hb y1 y2
  have e1 := div_num b.1 a.1 a.2 x (by omega) hx.1 hx.2
  have e2 := div_num b.2 a.1 a.2 x (by omega) hx.1 hx.2
  unfold In quoP mn mx
  dsimp only
  omega
theorem tmod_bd (x y : Int) (hy : y ≠ 0) : (0 ≤ x → 0 ≤ x.tmod y ∧ x.tmod y ≤ x) ∧ (x ≤ 0 → x ≤ x.tmod y ∧ x.tmod y ≤ 0) ∧ (x.tmod y).natAbs < y.natAbs := by
  have e := Int.natAbs_tmod x y
  have e2 := Nat.mod_lt x.natAbs (y := y.natAbs) (by omega)
  have e3 := Nat.mod_le x.natAbs y.natAbs
  refine ⟨fun h => ?_, fun h => ?_, by omega⟩
  · have := Int.tmod_nonneg y h
    omega
  · have := Int.tmod_nonneg (a := -x) y (by omega)
    rw [Int.neg_tmod] at this
    omega
theorem of_nn (x : Int) (h0 : 0 ≤ x) (h1 : x ≤ 9223372036854775807) : (BitVec.ofInt 64 x).toNat = x.toNat := by
  rw [BitVec.toNat_ofInt]
  omega
theorem of_ng (x : Int) (h0 : -9223372036854775808 ≤ x) (h1 : x < 0) : ((BitVec.ofInt 64 x).toNat : Int) = 18446744073709551616 + x := by
  rw [BitVec.toNat_ofInt]
  omega
theorem toInt_small (v : BitVec 64) (h : v.toNat < 9223372036854775808) : v.toInt = (v.toNat : Int) := by
  rw [BitVec.toInt_eq_toNat_bmod, Int.bmod]
  split <;> omega
theorem toInt_great (v : BitVec 64) (h : 9223372036854775808 ≤ v.toNat) : v.toInt = (v.toNat : Int) - 18446744073709551616 := by
  have := v.isLt
  rw [BitVec.toInt_eq_toNat_bmod, Int.bmod]
  split <;> omega
theorem and_comm64 (x y : Int) : bits .and .i64 x y = bits .and .i64 y x := by
  rw [bits_and_toInt, bits_and_toInt, BitVec.and_comm]
theorem and_nn (x y : Int) (h0 : 0 ≤ x) (h1 : x ≤ 9223372036854775807) : 0 ≤ bits .and .i64 x y ∧ bits .and .i64 x y ≤ x := by
  rw [bits_and_toInt]
  have e : (BitVec.ofInt 64 x &&& BitVec.ofInt 64 y).toNat ≤ x.toNat := by
    rw [BitVec.toNat_and, of_nn x h0 h1]
    exact Nat.and_le_left
  rw [toInt_small _ (by omega)]
  omega
theorem and_ng (x y : Int) (h0 : -9223372036854775808 ≤ x) (h1 : x < 0) (h2 : -9223372036854775808 ≤ y) (h3 : y < 0) : bits .and .i64 x y ≤ x := by
  have hn := (and_neg x y h0 (by omega) h2 (by omega)).2 ⟨h1, h3⟩
  rw [bits_and_toInt] at hn ⊢
  have e : (BitVec.ofInt 64 x &&& BitVec.ofInt 64 y).toNat ≤ (BitVec.ofInt 64 x).toNat := by
    rw [BitVec.toNat_and]
    exact Nat.and_le_left
  have e2 := of_ng x h0 h1
  by_cases h : (BitVec.ofInt 64 x &&& BitVec.ofInt 64 y).toNat < 9223372036854775808
  · rw [toInt_small _ h] at hn
    omega
  · rw [toInt_great _ (by omega)]
    omega
theorem not_of (x : Int) : ~~~ (BitVec.ofInt 64 x) = BitVec.ofInt 64 (-1 - x) := by
  apply BitVec.eq_of_toNat_eq
  rw [BitVec.toNat_not, BitVec.toNat_ofInt, BitVec.toNat_ofInt]
  omega
theorem not_toInt (v : BitVec 64) : (~~~ v).toInt = -1 - v.toInt := by
  have := v.isLt
  rw [BitVec.toInt_eq_toNat_bmod, BitVec.toInt_eq_toNat_bmod, BitVec.toNat_not, Int.bmod, Int.bmod]
  split <;> split <;> omega
theorem xor_comm64 (x y : Int) : bits .xor .i64 x y = bits .xor .i64 y x := by
  rw [bits_xor_toInt, bits_xor_toInt, BitVec.xor_comm]
theorem xor_pp (x y : Int) (k : Nat) (hk : k ≤ 63) (h0 : 0 ≤ x) (h1 : x < 2 ^ k) (h2 : 0 ≤ y) (h3 : y < 2 ^ k) : 0 ≤ bits .xor .i64 x y ∧ bits .xor .i64 x y < 2 ^ k := by
  have hp : (2 : Nat) ^ k ≤ 2 ^ 63 := Nat.pow_le_pow_right (by omega) hk
  have hc : ((2 : Int) ^ k) = ((2 ^ k : Nat) : Int) := by push_cast; rfl
  rw [hc] at h1 h3 ⊢
  rw [bits_xor_toInt]
  have e : (BitVec.ofInt 64 x ^^^ BitVec.ofInt 64 y).toNat < 2 ^ k := by
    rw [BitVec.toNat_xor, of_nn x h0 (by omega), of_nn y h2 (by omega)]
    exact Nat.xor_lt_two_pow (by omega) (by omega)
  rw [toInt_small _ (by omega)]
  omega
theorem xor_nn (x y : Int) : bits .xor .i64 x y = bits .xor .i64 (-1 - x) (-1 - y) := by
  rw [bits_xor_toInt, bits_xor_toInt, ← not_of, ← not_of]
  congr 1
  ext i
  simp
theorem xor_np (x y : Int) : bits .xor .i64 x y = -1 - bits .xor .i64 (-1 - x) y := by
  rw [bits_xor_toInt, bits_xor_toInt, ← not_of, ← not_toInt]
  congr 1
  ext i
  simp
theorem ones_lt (n : Int) (h : 0 ≤ n) : n ≤ onesI n := by
  have e := (bitLen_spec n.toNat).1
  unfold onesI
  have hc : ((2 : Int) ^ bitLen n.toNat) = ((2 ^ bitLen n.toNat : Nat) : Int) := by push_cast; rfl
  rw [hc]
  omega
theorem bitLen_mono (a b : Nat) (h : a ≤ b) : bitLen a ≤ bitLen b := by
  by_cases hl : bitLen a ≤ bitLen b
  · exact hl
  exfalso
  have e1 := (bitLen_spec b).1
  have ha : a ≠ 0 := by
    intro h0
    rw [h0] at hl
    simp [bitLen] at hl
  have e2 := (bitLen_spec a).2 ha
  have e3 : 2 ^ bitLen b ≤ 2 ^ (bitLen a - 1) := Nat.pow_le_pow_right (by omega) (by omega)
  omega
theorem bitLen_63 (n : Int) (h1 : n ≤ 9223372036854775807) : bitLen n.toNat ≤ 63 := by
  have := bitLen_mono n.toNat 9223372036854775807 (by omega)
  have e : bitLen 9223372036854775807 = 63 := by decide +kernel
  omega
theorem ones_mono (a b : Int) (h : a ≤ b) : onesI a ≤ onesI b := by
  have e := bitLen_mono a.toNat b.toNat (by omega)
  have e3 : 2 ^ bitLen a.toNat ≤ 2 ^ bitLen b.toNat := Nat.pow_le_pow_right (by omega) e
  unfold onesI
  have hc : ((2 : Int) ^ bitLen a.toNat) = ((2 ^ bitLen a.toNat : Nat) : Int) := by push_cast; rfl
  have hd : ((2 : Int) ^ bitLen b.toNat) = ((2 ^ bitLen b.toNat : Nat) : Int) := by push_cast; rfl
  rw [hc, hd]
  omega
theorem ones_bd (n : Int) (h1 : n ≤ 9223372036854775807) : 0 ≤ onesI n ∧ onesI n ≤ 9223372036854775807 := by
  have e := bitLen_63 n h1
  have e3 : 2 ^ bitLen n.toNat ≤ 2 ^ 63 := Nat.pow_le_pow_right (by omega) e
  have e4 : 0 < 2 ^ bitLen n.toNat := Nat.pow_pos (by omega)
  unfold onesI
  have hc : ((2 : Int) ^ bitLen n.toNat) = ((2 ^ bitLen n.toNat : Nat) : Int) := by push_cast; rfl
  rw [hc]
  omega
theorem xor_ones (x y n : Int) (hn : n ≤ 9223372036854775807) (h0 : 0 ≤ x) (h1 : x ≤ n) (h2 : 0 ≤ y) (h3 : y ≤ n) : 0 ≤ bits .xor .i64 x y ∧ bits .xor .i64 x y ≤ onesI n := by
  have e := ones_lt n (by omega)
  have e2 := bitLen_63 n hn
  unfold onesI at e ⊢
  have := xor_pp x y (bitLen n.toNat) e2 h0 (by omega) h2 (by omega)
  omega
end Go.Proofs.YthiacdbjlkpfgaaGreatDoor
namespace Go.Proofs.YthiacdbjlkpfgaaGreatDoor
open Go.RowKit
theorem fit_iff (n : Int) : fit n = true ↔ (-9223372036854775808 ≤ n ∧ n ≤ 9223372036854775807) := by
  unfold fit
  rw [Bool.and_eq_true, decide_eq_true_iff, decide_eq_true_iff]
theorem wrap_fit (n : Int) (h0 : -9223372036854775808 ≤ n) (h1 : n ≤ 9223372036854775807) : wrap64 n = n := by
  unfold wrap64
  omega
theorem wrap_bd (n : Int) : -9223372036854775808 ≤ wrap64 n ∧ wrap64 n ≤ 9223372036854775807 := by
  unfold wrap64
  omega
theorem all_in (n : Int) (h0 : -9223372036854775808 ≤ n) (h1 : n ≤ 9223372036854775807) : In allP n := ⟨h0, h1⟩
/-- whatever two numbers come to is an int64 -/
theorem arith_bd (op x y : Int) (hx : i64 x) : i64 (arith op x y).1 := by
  unfold i64 at hx ⊢
  unfold arith
  by_cases h4 : op = 4
  · rw [if_pos h4]; exact wrap_bd _
  rw [if_neg h4]
  by_cases h5 : op = 5
  · rw [if_pos h5]; exact wrap_bd _
  rw [if_neg h5]
  by_cases h6 : op = 6
  · rw [if_pos h6]; exact wrap_bd _
  rw [if_neg h6]
  by_cases h7 : op = 7
  · rw [if_pos h7]; split
    · dsimp only; omega
    · exact wrap_bd _
  rw [if_neg h7]
  by_cases h8 : op = 8
  · rw [if_pos h8]; split
    · dsimp only; omega
    · rename_i h
      have := tmod_bd x y h
      dsimp only
      omega
  rw [if_neg h8]
  by_cases h9 : op = 9
  · rw [if_pos h9]; exact and_i64 _ _
  rw [if_neg h9]
  by_cases h10 : op = 10
  · rw [if_pos h10]; exact xor_i64 _ _
  rw [if_neg h10]
  split
  · dsimp only; split <;> omega
  split
  · dsimp only; split <;> omega
  dsimp only; omega
theorem sound4 (a b : Int × Int) (x y : Int) (_ha : Sp a) (_hb : Sp b) (hx : In a x) (hy : In b y) : In (sumsP a b) (wrap64 (x + y)) := by
  unfold sumsP
  split
  · rename_i h
    rw [Bool.and_eq_true, fit_iff, fit_iff] at h
    unfold In at hx hy ⊢
    rw [wrap_fit _ (by omega) (by omega)]
    dsimp only
    omega
  · exact all_in _ (wrap_bd _).1 (wrap_bd _).2
theorem sound5 (a b : Int × Int) (x y : Int) (_ha : Sp a) (_hb : Sp b) (hx : In a x) (hy : In b y) : In (diffsP a b) (wrap64 (x - y)) := by
  unfold diffsP
  split
  · rename_i h
    rw [Bool.and_eq_true, fit_iff, fit_iff] at h
    unfold In at hx hy ⊢
    rw [wrap_fit _ (by omega) (by omega)]
    dsimp only
    omega
  · exact all_in _ (wrap_bd _).1 (wrap_bd _).2
theorem sound6 (a b : Int × Int) (x y : Int) (hx : In a x) (hy : In b y) : In (prodsP a b) (wrap64 (x * y)) := by
  unfold prodsP
  split
  · rename_i h
    simp only [Bool.and_eq_true, fit_iff] at h
    have e := mul_hull a b x y hx hy
    rw [wrap_fit]
    · exact e
    · unfold mn at e; omega
    · unfold mx at e; omega
  · exact all_in _ (wrap_bd _).1 (wrap_bd _).2
theorem tdiv_fit (x y : Int) (hx : i64 x) (hy : y ≠ 0) (h : ¬ (x = -9223372036854775808 ∧ y = -1)) : -9223372036854775808 ≤ x.tdiv y ∧ x.tdiv y ≤ 9223372036854775807 := by
  unfold i64 at hx
  have e : (x.tdiv y).natAbs = x.natAbs / y.natAbs := Int.natAbs_tdiv x y
  have e2 : x.natAbs / y.natAbs ≤ x.natAbs := Nat.div_le_self _ _
  by_cases hm : x = -9223372036854775808
  · by_cases h1 : y = 1
    · rw [hm, h1]; decide
    · have h2 : 2 ≤ y.natAbs := by omega
      have e3 : x.natAbs / y.natAbs ≤ x.natAbs / 2 := Nat.div_le_div_left h2 (by omega)
      omega
  · omega
theorem quo_in_below (a b : Int × Int) (x y : Int) (hx : In a x) (hy : In b y) (h : y < 0) : In (quoP a (belowP b)) (x.tdiv y) := by
  refine quo_hull a (belowP b) x y (Or.inr ?_) hx ?_
  · unfold belowP; dsimp only; omega
  · unfold In belowP at *; dsimp only; omega
theorem quo_in_above (a b : Int × Int) (x y : Int) (hx : In a x) (hy : In b y) (h : 0 < y) : In (quoP a (aboveP b)) (x.tdiv y) := by
  refine quo_hull a (aboveP b) x y (Or.inl ?_) hx ?_
  · unfold aboveP; dsimp only; omega
  · unfold In aboveP at *; dsimp only; omega
theorem sound7 (a b : Int × Int) (x y : Int) (ha : Sp a) (hx : In a x) (hy : In b y) (h0 : y ≠ 0) : (quotsP a b).2 = true ∧ In (quotsP a b).1 (wrap64 (x.tdiv y)) := by
  have hxi : i64 x := by unfold Sp In i64 at *; omega
  unfold quotsP
  split
  · exact ⟨rfl, all_in _ (wrap_bd _).1 (wrap_bd _).2⟩
  rename_i h1
  have e := tdiv_fit x y hxi h0 (by unfold In Sp at *; omega)
  rw [wrap_fit _ e.1 e.2]
  rcases Int.lt_or_gt_of_ne h0 with h | h
  · have q := quo_in_below a b x y hx hy h
    have hb1 : b.1 ≤ -1 := by unfold In at hy; omega
    split
    · refine ⟨rfl, ?_⟩
      unfold In at q ⊢
      dsimp only
      omega
    · exact ⟨rfl, q⟩
  · have q := quo_in_above a b x y hx hy h
    have hb1 : 1 ≤ b.2 := by unfold In at hy; omega
    split
    · refine ⟨rfl, ?_⟩
      unfold In at q ⊢
      dsimp only
      omega
    · rw [if_neg (by omega)]
      exact ⟨rfl, q⟩
theorem sound8 (a b : Int × Int) (x y : Int) (hx : In a x) (hy : In b y) (h0 : y ≠ 0) : (remsP a b).2 = true ∧ In (remsP a b).1 (x.tmod y) := by
  unfold remsP
  have e := tmod_bd x y h0
  unfold In farP at *
  rw [if_neg (by omega)]
  refine ⟨rfl, ?_⟩
  dsimp only
  omega
theorem sound9 (a b : Int × Int) (x y : Int) (ha : Sp a) (hb : Sp b) (hx : In a x) (hy : In b y) : In (andsP a b) (bits .and .i64 x y) := by
  have hb0 := and_i64 x y
  have h1 : 0 ≤ x → 0 ≤ bits .and .i64 x y ∧ bits .and .i64 x y ≤ x := fun h => and_nn x y h (by unfold Sp In at *; omega)
  have h2 : 0 ≤ y → 0 ≤ bits .and .i64 x y ∧ bits .and .i64 x y ≤ y := fun h => by rw [and_comm64]; exact and_nn y x h (by unfold Sp In at *; omega)
  have h3 : x < 0 → y < 0 → bits .and .i64 x y ≤ x ∧ bits .and .i64 x y ≤ y := fun h h' => ⟨and_ng x y (by unfold Sp In at *; omega) h (by unfold Sp In at *; omega) h', by rw [and_comm64]; exact and_ng y x (by unfold Sp In at *; omega) h' (by unfold Sp In at *; omega) h⟩
  generalize bits .and .i64 x y = n at *
  unfold andsP
  unfold Sp In at *
  split
  · dsimp only; omega
  split
  · dsimp only; omega
  split
  · dsimp only; omega
  split
  · dsimp only; omega
  · dsimp only; omega
theorem sound10 (a b : Int × Int) (x y : Int) (ha : Sp a) (hb : Sp b) (hx : In a x) (hy : In b y) : In (xorsP a b) (bits .xor .i64 x y) := by
  unfold xorsP
  unfold Sp In at *
  split
  · exact xor_ones x y _ (by omega) (by omega) (by omega) (by omega) (by omega)
  split
  · rw [xor_nn]
    exact xor_ones (-1 - x) (-1 - y) _ (by omega) (by omega) (by omega) (by omega) (by omega)
  split
  · rw [xor_np]
    have e := xor_ones (-1 - x) y (max (-1 - a.1) b.2) (by omega) (by omega) (by omega) (by omega) (by omega)
    dsimp only
    omega
  split
  · rw [xor_comm64, xor_np]
    have e := xor_ones (-1 - y) x (max a.2 (-1 - b.1)) (by omega) (by omega) (by omega) (by omega) (by omega)
    dsimp only
    omega
  · exact xor_i64 x y
/-- what any numbers of two Spans come to is told -/
theorem two_sound (op : Int) (a b : Int × Int) (x y : Int) (ha : Sp a) (hb : Sp b) (hx : In a x) (hy : In b y) (h : (arith op x y).2 = true) : (twoP op a b).2 = true ∧ In (twoP op a b).1 (arith op x y).1 := by
  unfold arith twoP at *
  by_cases h4 : op = 4
  · simp only [if_pos h4]; exact ⟨trivial, sound4 a b x y ha hb hx hy⟩
  simp only [if_neg h4] at h ⊢
  by_cases h5 : op = 5
  · simp only [if_pos h5]; exact ⟨trivial, sound5 a b x y ha hb hx hy⟩
  simp only [if_neg h5] at h ⊢
  by_cases h6 : op = 6
  · simp only [if_pos h6]; exact ⟨trivial, sound6 a b x y hx hy⟩
  simp only [if_neg h6] at h ⊢
  by_cases h7 : op = 7
  · simp only [if_pos h7] at h ⊢
    have h0 : y ≠ 0 := by
      intro h0
      rw [if_pos h0] at h
      exact Bool.noConfusion h
    rw [if_neg h0]
    exact sound7 a b x y ha hx hy h0
  simp only [if_neg h7] at h ⊢
  by_cases h8 : op = 8
  · simp only [if_pos h8] at h ⊢
    have h0 : y ≠ 0 := by
      intro h0
      rw [if_pos h0] at h
      exact Bool.noConfusion h
    rw [if_neg h0]
    exact sound8 a b x y hx hy h0
  simp only [if_neg h8] at h ⊢
  by_cases h9 : op = 9
  · simp only [if_pos h9]; exact ⟨trivial, sound9 a b x y ha hb hx hy⟩
  simp only [if_neg h9] at h ⊢
  by_cases h10 : op = 10
  · simp only [if_pos h10]; exact ⟨trivial, sound10 a b x y ha hb hx hy⟩
  simp only [if_neg h10] at h ⊢
  by_cases h11 : op = 11
  · simp only [if_pos h11]
    refine ⟨trivial, ?_⟩
    unfold lessP In at *
    split <;> split <;> try split
    all_goals (dsimp only; omega)
  simp only [if_neg h11] at h ⊢
  by_cases h12 : op = 12
  · simp only [if_pos h12]
    refine ⟨trivial, ?_⟩
    unfold sameP In at *
    split <;> split <;> try split
    all_goals (dsimp only; omega)
  simp only [if_neg h12] at h ⊢
  exact Bool.noConfusion h
end Go.Proofs.YthiacdbjlkpfgaaGreatDoor
namespace Go.Proofs.YthiacdbjlkpfgaaGreatDoor
open Go.RowKit
theorem sum_fit (x y : Int) (hx : i64 x) (hy : i64 y) : (decide (wrap64 (x + y) < x) == decide (y < 0)) = fit (x + y) := by
  unfold i64 at *
  unfold wrap64 fit
  rw [Bool.eq_iff_iff]
  simp only [beq_iff_eq, Bool.and_eq_true, decide_eq_true_iff, decide_eq_decide]
  omega
theorem diff_fit (x y : Int) (hx : i64 x) (hy : i64 y) : (decide (x < wrap64 (x - y)) == decide (y < 0)) = fit (x - y) := by
  unfold i64 at *
  unfold wrap64 fit
  rw [Bool.eq_iff_iff]
  simp only [beq_iff_eq, Bool.and_eq_true, decide_eq_true_iff, decide_eq_decide]
  omega
theorem prod_fit (x y : Int) (hy : i64 y) (h0 : y ≠ 0) : (wrap64 (x * y)).tdiv y = x ↔ fit (x * y) = true := by
  rw [fit_iff]
  constructor
  · intro h
    have e := Int.mul_tdiv_add_tmod (wrap64 (x * y)) y
    rw [h, Int.mul_comm y x] at e
    have e2 := (tmod_bd (wrap64 (x * y)) y h0).2.2
    generalize (wrap64 (x * y)).tmod y = t at *
    generalize x * y = p at *
    unfold i64 at hy
    unfold wrap64 at e
    omega
  · intro h
    rw [wrap_fit _ h.1 h.2]
    exact Int.mul_tdiv_cancel x h0
theorem wrapK (n : Int) : IntKind.i64.wrap n = wrap64 n := by rw [IntKind.wrap_i64]; unfold wrap64; omega
theorem ret_ib {n : Int} {b b' : Bool} (h : b = b') : Ending.returned (.tuple #[.int .i64 n, .bool b]) = Ending.returned (.tuple #[.int .i64 n, .bool b']) := by rw [h]
theorem sum_any (x y : Int) (w : World) (hx : i64 x) (hy : i64 y) : Calls Tryz.prog 102 #[.int .i64 x, .int .i64 y] w fun e w' => e = .returned (.tuple #[.int .i64 (wrap64 (x + y)), .bool (fit (x + y))]) ∧ w' = w := by
  have hf := sum_fit x y hx hy
  go_enter Tryz.func102, Tryz.ntmps102
  go_wp2
  go_ret2
  exact ⟨by rw [← hf]; simp, rfl⟩
theorem difference_any (x y : Int) (w : World) (hx : i64 x) (hy : i64 y) : Calls Tryz.prog 103 #[.int .i64 x, .int .i64 y] w fun e w' => e = .returned (.tuple #[.int .i64 (wrap64 (x - y)), .bool (fit (x - y))]) ∧ w' = w := by
  have hf := diff_fit x y hx hy
  go_enter Tryz.func103, Tryz.ntmps103
  go_wp2
  go_ret2
  exact ⟨by rw [← hf]; simp, rfl⟩
theorem product_any (x y : Int) (w : World) (hx : i64 x) (hy : i64 y) : Calls Tryz.prog 104 #[.int .i64 x, .int .i64 y] w fun e w' => e = .returned (.tuple #[.int .i64 (wrap64 (x * y)), .bool (fit (x * y))]) ∧ ∃ j, w' = w.drewN j := by
  by_cases h1 : y = -1
  · subst h1
    have hf : fit (x * -1) = (x != -9223372036854775808) := by
      unfold i64 at hx
      rw [Bool.eq_iff_iff, fit_iff, bne_iff_ne]
      omega
    go_enter Tryz.func104, Tryz.ntmps104
    go_wp2
    go_ret2
    exact ⟨by rw [hf]; simp, 0, rfl⟩
  by_cases h0 : y = 0
  · subst h0
    go_enter Tryz.func104, Tryz.ntmps104
    go_wp2
    go_quiet (fail)
    go_wp2
    go_ret2
    exact ⟨by simp [fit, wrap64], _, rfl⟩
  · have hf := prod_fit x y hy h0
    have hw := wrap_bd (x * y)
    have hq := tdiv_fit (wrap64 (x * y)) y hw h0 (by omega)
    have hg : (wrap64 ((wrap64 (x * y)).tdiv y) == x) = fit (x * y) := by rw [Bool.eq_iff_iff, beq_iff_eq, wrap_fit _ hq.1 hq.2]; exact hf
    go_enter Tryz.func104, Tryz.ntmps104
    go_wp2
    go_quiet (fail)
    go_wp2
    go_ret2
    exact ⟨by rw [← hg]; simp [h0, wrapK], _, rfl⟩
end Go.Proofs.YthiacdbjlkpfgaaGreatDoor
