import Derived.Test.YtmpmefnaepnfnaaRows
import Derived.Test.YtmpmefnaepnfnaaAr
import Derived.WalkKit
import Derived.ProofKit
import Derived.OpenShut
import Derived.ShutString
import Derived.ChangeOld
import Derived.Below
import Derived.WideKeyPair
namespace Go.Proofs.Ytmpmefnaepnfnaa
open Go.ChangeShapes Go.WideShapes Go.ChangeAt Go.RowKit

theorem own : ownKnob Try.prog.godebug = none := by kernel_rfl
theorem laidOut : laidOutB Try.prog = true := by kernel_rfl
theorem i64_of_wf {n : Int} (h : (Lit.int .i64 n).wf = true) : i64 n := by
  simp only [Lit.wf, Bool.and_eq_true, decide_eq_true_eq] at h
  exact ⟨h.1, h.2⟩
theorem arr49 : Go.WideMaps.ArrKey Try.prog 49 2 2 := ⟨Try.underlying49, by kernel_rfl, by kernel_rfl, by kernel_rfl⟩
theorem Try.cells4 : Try.prog.cellsOf 4 = 1 := by kernel_rfl
theorem Try.cells2 : Try.prog.cellsOf 2 = 1 := by kernel_rfl
theorem Try.cells50 : Try.prog.cellsOf 50 = 2 := by kernel_rfl
theorem Try.cells23 : Try.prog.cellsOf 23 = 2 := by kernel_rfl
/-- two cells -/
theorem two_of {cs : Array Value} (h : cs.size = 2) : ∃ c0 c1, cs = #[c0, c1] := by
  obtain ⟨l⟩ := cs
  match l, h with
  | [c0, c1], _ => exact ⟨c0, c1, rfl⟩
theorem open_bools2 {H : Type} {enc : TypeId × Value → H} {W : World} {r : Reach} {b0 base : Nat} {sp : Nat → Bool} {held : Bool} {v : Value} {d : DataW H} {p : List MemPlace}
    (hval : Value.okWide Try.prog W r b0 50 v) (h : DataW.Trod enc Try.prog W base sp held 50 v d p) : ∃ a b, v = .agg #[.bool a, .bool b] := by
  simp only [Value.okWide, Try.underlying50] at hval
  obtain ⟨cs, rfl, h2, _⟩ := hval
  rw [Try.cells50] at h2
  obtain ⟨c0, c1, rfl⟩ := two_of h2
  obtain ⟨fuel, hf⟩ := h
  obtain ⟨xs, m, _, _, _, _, hx⟩ := DataW.trod_array Try.underlying50 hf
  have g0 := hx 0 (by omega)
  have g1 := hx 1 (by omega)
  rw [Try.cells4] at g0 g1
  simp only [Value.cells, List.drop, List.take] at g0 g1
  cases e0 : xs[0]? with
  | none => have := List.getElem?_eq_none_iff.1 e0; omega
  | some y0 =>
    cases e1 : xs[1]? with
    | none => have := List.getElem?_eq_none_iff.1 e1; omega
    | some y1 =>
      rw [e0] at g0
      rw [e1] at g1
      obtain ⟨a, ha, _⟩ := DataW.trod_bool Try.underlying4 g0
      obtain ⟨b, hb, _⟩ := DataW.trod_bool Try.underlying4 g1
      simp at ha hb
      exact ⟨a, b, by rw [ha, hb]⟩
theorem open_known {H : Type} {enc : TypeId × Value → H} {W : World} {r : Reach} {b0 base : Nat} {sp : Nat → Bool} {held : Bool} {v : Value} {d : DataW H} {p : List MemPlace}
    (hval : Value.okWide Try.prog W r b0 23 v) (h : DataW.Trod enc Try.prog W base sp held 23 v d p) : ∃ a n, v = .agg #[.bool a, .int .i64 n] ∧ i64 n := by
  obtain ⟨cs, rfl, h2⟩ := okWide_struct Try.underlying23 hval
  rw [Try.cells23] at h2
  obtain ⟨c0, c1, rfl⟩ := two_of h2
  obtain ⟨fuel, hf⟩ := h
  obtain ⟨xs, m, _, _, _, hl, hx⟩ := DataW.trod_struct Try.underlying23 hf
  have g0 : DataW.trod enc Try.prog W base sp held m 4 (([c0, c1].drop 0).take (Try.prog.cellsOf 4)) = xs[0]? := hx 0 _ rfl
  have g1 : DataW.trod enc Try.prog W base sp held m 2 (([c0, c1].drop 1).take (Try.prog.cellsOf 2)) = xs[1]? := hx 1 _ rfl
  rw [Try.cells4] at g0
  rw [Try.cells2] at g1
  simp only [List.drop, List.take] at g0 g1
  have hl2 : xs.length = 2 := hl
  cases e0 : xs[0]? with
  | none => have := List.getElem?_eq_none_iff.1 e0; omega
  | some y0 =>
    cases e1 : xs[1]? with
    | none => have := List.getElem?_eq_none_iff.1 e1; omega
    | some y1 =>
      rw [e0] at g0
      rw [e1] at g1
      obtain ⟨a, ha, _⟩ := DataW.trod_bool Try.underlying4 g0
      obtain ⟨n, hn, _, wn⟩ := DataW.trod_int Try.underlying2 g1
      simp at ha hn
      exact ⟨a, n, by rw [ha, hn], i64_of_wf wn⟩
end Go.Proofs.Ytmpmefnaepnfnaa
