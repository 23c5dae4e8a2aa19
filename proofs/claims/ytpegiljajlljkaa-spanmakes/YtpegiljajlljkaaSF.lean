import Derived.Test.YtpegiljajlljkaaRows
import Derived.Test.YtpegiljajlljkaaAr
import Derived.WalkKit
import Derived.ProofKit
import Derived.OpenShut
import Derived.ShutString
import Derived.ChangeOld
import Derived.Below
import Derived.WideKeyPair
namespace Go.Proofs.Ytpegiljajlljkaa
open Go.ChangeShapes Go.WideShapes Go.ChangeAt Go.RowKit

theorem own : ownKnob Try.prog.godebug = none := by kernel_rfl
theorem laidOut : laidOutB Try.prog = true := by kernel_rfl
theorem i64_of_wf {n : Int} (h : (Lit.int .i64 n).wf = true) : i64 n := by
  simp only [Lit.wf, Bool.and_eq_true, decide_eq_true_eq] at h
  exact ⟨h.1, h.2⟩
theorem arr51 : Go.WideMaps.ArrKey Try.prog 51 2 2 := ⟨Try.underlying51, by kernel_rfl, by kernel_rfl, by kernel_rfl⟩
theorem Try.cells2 : Try.prog.cellsOf 2 = 1 := by kernel_rfl
theorem Try.cells23 : Try.prog.cellsOf 23 = 2 := by kernel_rfl
theorem Try.cells52 : Try.prog.cellsOf 52 = 4 := by kernel_rfl
/-- two cells -/
theorem two_of {cs : Array Value} (h : cs.size = 2) : ∃ c0 c1, cs = #[c0, c1] := by
  obtain ⟨l⟩ := cs
  match l, h with
  | [c0, c1], _ => exact ⟨c0, c1, rfl⟩
theorem four_of {cs : Array Value} (h : cs.size = 4) : ∃ c0 c1 c2 c3, cs = #[c0, c1, c2, c3] := by
  obtain ⟨l⟩ := cs
  match l, h with
  | [c0, c1, c2, c3], _ => exact ⟨c0, c1, c2, c3, rfl⟩
/-- the two numbers of a Span's cells -/
theorem span_cells {H : Type} {enc : TypeId × Value → H} {W : World} {base : Nat} {sp : Nat → Bool} {held : Bool} {fuel : Nat} {c0 c1 : Value} {d : DataW H × List MemPlace}
    (hf : DataW.trod enc Try.prog W base sp held fuel 23 [c0, c1] = some d) : ∃ a b, c0 = .int .i64 a ∧ c1 = .int .i64 b ∧ i64 a ∧ i64 b := by
  obtain ⟨d1, d2⟩ := d
  obtain ⟨xs, m, _, _, _, hl, hx⟩ := DataW.trod_struct Try.underlying23 hf
  have g0 : DataW.trod enc Try.prog W base sp held m 2 (([c0, c1].drop 0).take (Try.prog.cellsOf 2)) = xs[0]? := hx 0 _ rfl
  have g1 : DataW.trod enc Try.prog W base sp held m 2 (([c0, c1].drop 1).take (Try.prog.cellsOf 2)) = xs[1]? := hx 1 _ rfl
  rw [Try.cells2] at g0 g1
  simp only [List.drop, List.take] at g0 g1
  have hl2 : xs.length = 2 := hl
  cases e0 : xs[0]? with
  | none => have := List.getElem?_eq_none_iff.1 e0; omega
  | some y0 =>
    cases e1 : xs[1]? with
    | none => have := List.getElem?_eq_none_iff.1 e1; omega
    | some y1 =>
      rw [e0] at g0
      rw [e1] at g1
      obtain ⟨a, ha, _, wa⟩ := DataW.trod_int Try.underlying2 g0
      obtain ⟨b, hb, _, wb⟩ := DataW.trod_int Try.underlying2 g1
      simp at ha hb
      exact ⟨a, b, ha, hb, i64_of_wf wa, i64_of_wf wb⟩
theorem open_span {H : Type} {enc : TypeId × Value → H} {W : World} {r : Reach} {b0 base : Nat} {sp : Nat → Bool} {held : Bool} {v : Value} {d : DataW H} {p : List MemPlace}
    (hval : Value.okWide Try.prog W r b0 23 v) (h : DataW.Trod enc Try.prog W base sp held 23 v d p) : ∃ a b, v = .agg #[.int .i64 a, .int .i64 b] ∧ i64 a ∧ i64 b := by
  obtain ⟨cs, rfl, h2⟩ := okWide_struct Try.underlying23 hval
  rw [Try.cells23] at h2
  obtain ⟨c0, c1, rfl⟩ := two_of h2
  obtain ⟨fuel, hf⟩ := h
  obtain ⟨a, b, ha, hb, ia, ib⟩ := span_cells hf
  exact ⟨a, b, by rw [ha, hb], ia, ib⟩
theorem open_spans2 {H : Type} {enc : TypeId × Value → H} {W : World} {r : Reach} {b0 base : Nat} {sp : Nat → Bool} {held : Bool} {v : Value} {d : DataW H} {p : List MemPlace}
    (hval : Value.okWide Try.prog W r b0 52 v) (h : DataW.Trod enc Try.prog W base sp held 52 v d p) : ∃ a b c e, v = .agg #[.int .i64 a, .int .i64 b, .int .i64 c, .int .i64 e] ∧ i64 a ∧ i64 b ∧ i64 c ∧ i64 e := by
  simp only [Value.okWide, Try.underlying52] at hval
  obtain ⟨cs, rfl, h2, _⟩ := hval
  rw [Try.cells52] at h2
  obtain ⟨c0, c1, c2, c3, rfl⟩ := four_of h2
  obtain ⟨fuel, hf⟩ := h
  obtain ⟨xs, m, _, _, _, _, hx⟩ := DataW.trod_array Try.underlying52 hf
  have g0 := hx 0 (by omega)
  have g1 := hx 1 (by omega)
  rw [Try.cells23] at g0 g1
  simp only [Value.cells, List.drop, List.take] at g0 g1
  cases e0 : xs[0]? with
  | none => have := List.getElem?_eq_none_iff.1 e0; omega
  | some y0 =>
    cases e1 : xs[1]? with
    | none => have := List.getElem?_eq_none_iff.1 e1; omega
    | some y1 =>
      rw [e0] at g0
      rw [e1] at g1
      obtain ⟨a, b, ha, hb, ia, ib⟩ := span_cells g0
      obtain ⟨c, e, hc, he, ic, ie⟩ := span_cells g1
      exact ⟨a, b, c, e, by rw [ha, hb, hc, he], ia, ib, ic, ie⟩
end Go.Proofs.Ytpegiljajlljkaa
