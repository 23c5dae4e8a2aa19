import Derived.Test.YtcmmjkkpjclfgaaDoorPath
import Derived.Deep.QuietTactic
import Derived.BigQuiet
namespace Go.Proofs.YtcmmjkkpjclfgaaDoor
open Go.RowKit

theorem ret_dec {P : Prop} [Decidable P] (b : Bool) (h : b = decide P) : Ending.returned (.bool b) = .returned (.bool (decide P)) := by rw [h]
theorem lists_differ {xs ys t : List Int} {p q : Int} (h1 : ∃ r, xs = t ++ p :: r) (h2 : ∃ r, ys = t ++ q :: r) (h : ¬ p = q) : ¬ xs = ys := by
  obtain ⟨r, rfl⟩ := h1
  obtain ⟨r', rfl⟩ := h2
  intro e
  have := List.append_cancel_left e
  simp at this
  exact h this.1

set_option maxRecDepth 100000 in
set_option maxHeartbeats 1000000 in
theorem same_any (a b : Option Addr) (c d : Nat) (xs ys : List Int) (w : World) (ha : Row w a (I64 xs)) (hb : Row w b (I64 ys)) (hx : xs.length ≤ 140737488355328) (_hy : ys.length ≤ 140737488355328) :
    Calls Tryd.prog 18 #[.slice a xs.length c, .slice b ys.length d] w fun e w' => e = .returned (.bool (decide (xs = ys))) ∧ ∃ n, w' = w.drewN n := by
  have HA : Hid (Row w a (I64 xs)) := ha
  have HB : Hid (Row w b (I64 ys)) := hb
  clear ha hb
  by_cases hlen : xs.length = ys.length
  · have hn : ((xs.length : Int) != ys.length) = false := by simp; omega
    have HLEN : Hid (xs.length = ys.length) := hlen
    have hyl : (ys.length : Int) ≤ 140737488355328 := by omega
    have hxl : (xs.length : Int) ≤ 140737488355328 := by omega
    clear hx _hy hlen
    go_enter Tryd.func18, Tryd.ntmps18
    go_wp2
    go_loopw [5] (fun i wr => ∃ k j : Nat, i = .int .i64 k ∧ k ≤ xs.length ∧ wr = w.drewN j ∧ Hid (xs.take k = ys.take k)) (fun i _ => xs.length - (intOf i).toNat)
    case atStart => exact ⟨0, 0, rfl, Nat.zero_le _, rfl, by simp [Hid]⟩
    case round =>
      obtain ⟨k, j, rfl, hk, rfl, hT⟩ := hrel
      by_cases hlt : k < xs.length
      · have hlt2 : k < ys.length := by have := HLEN.out; omega
        have hp : (I64 xs)[k]? = some (.int .i64 xs[k]) := by simp [I64, hlt]
        have hq : (I64 ys)[k]? = some (.int .i64 ys[k]) := by simp [I64, hlt2]
        obtain ⟨ba, oa, rfl, ca⟩ := HA.out.at hp
        obtain ⟨bb, ob, rfl, cb⟩ := HB.out.at hq
        have HX : Hid (xs.take (k + 1) = xs.take k ++ [xs[k]]) := by unfold Hid; rw [List.take_succ_eq_append_getElem hlt]
        have HY : Hid (ys.take (k + 1) = ys.take k ++ [ys[k]]) := by unfold Hid; rw [List.take_succ_eq_append_getElem hlt2]
        have HXX : Hid (∃ r, xs = xs.take k ++ xs[k] :: r) := ⟨xs.drop (k + 1), by rw [← List.drop_eq_getElem_cons hlt, List.take_append_drop]⟩
        have HYY : Hid (∃ r, ys = ys.take k ++ ys[k] :: r) := ⟨ys.drop (k + 1), by rw [← List.drop_eq_getElem_cons hlt2, List.take_append_drop]⟩
        generalize xs[k] = p at *
        generalize ys[k] = q at *
        have i1 : (k : Int) < xs.length := by omega
        have i2 : (k : Int) < ys.length := by omega
        have i0 : (0 : Int) ≤ k := by omega
        clear hp hq
        by_cases hpq : p = q
        · have hne : (p != q) = false := by simp [hpq]
          have HPQ : Hid (p = q) := hpq
          clear hpq
          go_wp2
          go_quiet (fail)
          go_wp2
          go_roundw
          case rel => exact ⟨k + 1, _, by go_num, by omega, rfl, by unfold Hid; rw [HX.out, HY.out, hT.out, HPQ.out]⟩
          case measure => simp [intOf]; omega
        · have hne : (p != q) = true := by simp [hpq]
          have HPQ : Hid (¬ p = q) := hpq
          clear hpq
          go_wp2
          go_quiet (fail)
          go_wp2
          go_ret
          refine ⟨ret_dec false ?_, _, by rw [World.drewN_drewN]⟩
          have h1 := HXX.out
          have h2 := HYY.out
          rw [hT.out] at h1
          simp [lists_differ h1 h2 HPQ.out]
      · have hlt' : ¬ (k : Int) < xs.length := by omega
        go_wp2
        go_ret
        refine ⟨ret_dec true ?_, _, rfl⟩
        have h1 := hT.out
        have h2 := HLEN.out
        rw [List.take_of_length_le (by omega), List.take_of_length_le (by omega)] at h1
        simp [h1]
  · have hn : ((xs.length : Int) != ys.length) = true := by simp; omega
    have HLEN : Hid (¬ xs.length = ys.length) := hlen
    clear hlen
    go_enter Tryd.func18, Tryd.ntmps18
    go_wp2
    go_ret
    refine ⟨ret_dec false ?_, 0, rfl⟩
    have h : ¬ xs = ys := fun e => HLEN.out (by rw [e])
    simp [h]
end Go.Proofs.YtcmmjkkpjclfgaaDoor
