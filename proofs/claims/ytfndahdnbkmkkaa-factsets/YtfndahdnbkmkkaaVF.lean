import Derived.Test.YtfndahdnbkmkkaaRows
import Derived.Test.YtfndahdnbkmkkaaFwW
import Derived.OpenShut
import Derived.ShutString
import Derived.ChangeOld
import Derived.WideKeyPair
import Derived.Deep.Slices
import Derived.ChangeSame
namespace Go.Proofs.Ytfndahdnbkmkkaa
open Go.ChangeShapes Go.WideShapes Go.ChangeAt Go.RowKit Go.Deep
theorem own : ownKnob Try.prog.godebug = none := by kernel_rfl
theorem laidOut : laidOutB Try.prog = true := by kernel_rfl
theorem i64_of_wf {n : Int} (h : (Lit.int .i64 n).wf = true) : i64 n := by
  simp only [Lit.wf, Bool.and_eq_true, decide_eq_true_eq] at h
  exact ⟨h.1, h.2⟩
theorem Try.cells2 : Try.prog.cellsOf 2 = 1 := by kernel_rfl
theorem Try.cells3 : Try.prog.cellsOf 3 = 1 := by kernel_rfl
theorem Try.cells4 : Try.prog.cellsOf 4 = 1 := by kernel_rfl
theorem Try.cells23 : Try.prog.cellsOf 23 = 2 := by kernel_rfl
theorem Try.cells25 : Try.prog.cellsOf 25 = 2 := by kernel_rfl
theorem Try.cells27 : Try.prog.cellsOf 27 = 6 := by kernel_rfl
theorem six_of {cs : Array Value} (h : cs.size = 6) : ∃ c0 c1 c2 c3 c4 c5, cs = #[c0, c1, c2, c3, c4, c5] := by
  obtain ⟨l⟩ := cs
  match l, h with
  | [c0, c1, c2, c3, c4, c5], _ => exact ⟨c0, c1, c2, c3, c4, c5, rfl⟩
/-- the two cells of a Known, of a Span -/
theorem known_cells {H : Type} {enc : TypeId × Value → H} {W : World} {base : Nat} {sp : Nat → Bool} {held : Bool} {fuel : Nat} {c0 c1 : Value} {d : DataW H × List MemPlace}
    (hf : DataW.trod enc Try.prog W base sp held fuel 23 [c0, c1] = some d) : ∃ a b, c0 = .bool a ∧ c1 = .int .i64 b ∧ i64 b := by
  obtain ⟨d1, d2⟩ := d
  obtain ⟨xs, m, _, _, _, hl, hx⟩ := DataW.trod_struct Try.underlying23 hf
  have g0 : DataW.trod enc Try.prog W base sp held m 4 (([c0, c1].drop 0).take (Try.prog.cellsOf 4)) = xs[0]? := hx 0 _ rfl
  have g1 : DataW.trod enc Try.prog W base sp held m 2 (([c0, c1].drop 1).take (Try.prog.cellsOf 2)) = xs[1]? := hx 1 _ rfl
  rw [Try.cells4] at g0
  rw [Try.cells2] at g1
  simp only [List.drop, List.take] at g0 g1
  have hl2 : xs.length = 2 := hl
  cases e0 : xs[0]? with
  | none => have := List.getElem?_eq_none_iff.1 e0; omega
  | some y0 =>
    cases e1 : xs[1]? with
    | none => have := List.getElem?_eq_none_iff.1 e1; omega
    | some y1 =>
      rw [e0] at g0
      rw [e1] at g1
      obtain ⟨a, ha, _⟩ := DataW.trod_bool Try.underlying4 g0
      obtain ⟨b, hb, _, wb⟩ := DataW.trod_int Try.underlying2 g1
      simp at ha hb
      exact ⟨a, b, ha, hb, i64_of_wf wb⟩
theorem span_cells {H : Type} {enc : TypeId × Value → H} {W : World} {base : Nat} {sp : Nat → Bool} {held : Bool} {fuel : Nat} {c0 c1 : Value} {d : DataW H × List MemPlace}
    (hf : DataW.trod enc Try.prog W base sp held fuel 25 [c0, c1] = some d) : ∃ a b, c0 = .int .i64 a ∧ c1 = .int .i64 b ∧ i64 a ∧ i64 b := by
  obtain ⟨d1, d2⟩ := d
  obtain ⟨xs, m, _, _, _, hl, hx⟩ := DataW.trod_struct Try.underlying25 hf
  have g0 : DataW.trod enc Try.prog W base sp held m 2 (([c0, c1].drop 0).take (Try.prog.cellsOf 2)) = xs[0]? := hx 0 _ rfl
  have g1 : DataW.trod enc Try.prog W base sp held m 2 (([c0, c1].drop 1).take (Try.prog.cellsOf 2)) = xs[1]? := hx 1 _ rfl
  rw [Try.cells2] at g0 g1
  simp only [List.drop, List.take] at g0 g1
  have hl2 : xs.length = 2 := hl
  cases e0 : xs[0]? with
  | none => have := List.getElem?_eq_none_iff.1 e0; omega
  | some y0 =>
    cases e1 : xs[1]? with
    | none => have := List.getElem?_eq_none_iff.1 e1; omega
    | some y1 =>
      rw [e0] at g0
      rw [e1] at g1
      obtain ⟨a, ha, _, wa⟩ := DataW.trod_int Try.underlying2 g0
      obtain ⟨b, hb, _, wb⟩ := DataW.trod_int Try.underlying2 g1
      simp at ha hb
      exact ⟨a, b, ha, hb, i64_of_wf wa, i64_of_wf wb⟩
/-- the six cells of a Value -/
theorem val_cells {H : Type} {enc : TypeId × Value → H} {W : World} {base : Nat} {sp : Nat → Bool} {held : Bool} {fuel : Nat} {c0 c1 c2 c3 c4 c5 : Value} {d : DataW H × List MemPlace}
    (hf : DataW.trod enc Try.prog W base sp held fuel 27 [c0, c1, c2, c3, c4, c5] = some d) : ∃ r : R, c0 = .int .i64 r.s ∧ c1 = .bool r.k ∧ c2 = .int .i64 r.n ∧ c3 = .int .i64 r.lo ∧ c4 = .int .i64 r.hi ∧ c5 = .int .i64 r.p ∧ i64 r.n ∧ i64 r.lo ∧ i64 r.hi := by
  obtain ⟨d1, d2⟩ := d
  obtain ⟨xs, m, _, _, _, hl, hx⟩ := DataW.trod_struct Try.underlying27 hf
  have g0 : DataW.trod enc Try.prog W base sp held m 3 (([c0, c1, c2, c3, c4, c5].drop 0).take (Try.prog.cellsOf 3)) = xs[0]? := hx 0 _ rfl
  have g1 : DataW.trod enc Try.prog W base sp held m 23 (([c0, c1, c2, c3, c4, c5].drop 1).take (Try.prog.cellsOf 23)) = xs[1]? := hx 1 _ rfl
  have g2 : DataW.trod enc Try.prog W base sp held m 25 (([c0, c1, c2, c3, c4, c5].drop 3).take (Try.prog.cellsOf 25)) = xs[2]? := hx 2 _ rfl
  have g3 : DataW.trod enc Try.prog W base sp held m 3 (([c0, c1, c2, c3, c4, c5].drop 5).take (Try.prog.cellsOf 3)) = xs[3]? := hx 3 _ rfl
  rw [Try.cells3] at g0 g3
  rw [Try.cells23] at g1
  rw [Try.cells25] at g2
  simp only [List.drop, List.take] at g0 g1 g2 g3
  have hl2 : xs.length = 4 := hl
  cases e0 : xs[0]? with
  | none => have := List.getElem?_eq_none_iff.1 e0; omega
  | some y0 =>
    cases e1 : xs[1]? with
    | none => have := List.getElem?_eq_none_iff.1 e1; omega
    | some y1 =>
      cases e2 : xs[2]? with
      | none => have := List.getElem?_eq_none_iff.1 e2; omega
      | some y2 =>
        cases e3 : xs[3]? with
        | none => have := List.getElem?_eq_none_iff.1 e3; omega
        | some y3 =>
          rw [e0] at g0
          rw [e1] at g1
          rw [e2] at g2
          rw [e3] at g3
          obtain ⟨a, ha, _, _⟩ := DataW.trod_int Try.underlying3 g0
          obtain ⟨k, n, hk, hn, wn⟩ := known_cells g1
          obtain ⟨l, h, hl, hh, wl, wh⟩ := span_cells g2
          obtain ⟨b, hb, _, _⟩ := DataW.trod_int Try.underlying3 g3
          simp at ha hb
          exact ⟨⟨a, k, n, l, h, b⟩, ha, hk, hn, hl, hh, hb, wn, wl, wh⟩
theorem open_val {H : Type} {enc : TypeId × Value → H} {W : World} {r : Reach} {b0 base : Nat} {sp : Nat → Bool} {held : Bool} {v : Value} {d : DataW H} {p : List MemPlace}
    (hval : Value.okWide Try.prog W r b0 27 v) (h : DataW.Trod enc Try.prog W base sp held 27 v d p) : ∃ x : R, v = .agg #[.int .i64 x.s, .bool x.k, .int .i64 x.n, .int .i64 x.lo, .int .i64 x.hi, .int .i64 x.p] ∧ i64 x.n ∧ i64 x.lo ∧ i64 x.hi := by
  obtain ⟨cs, rfl, h2⟩ := okWide_struct Try.underlying27 hval
  rw [Try.cells27] at h2
  obtain ⟨c0, c1, c2, c3, c4, c5, rfl⟩ := six_of h2
  obtain ⟨fuel, hf⟩ := h
  obtain ⟨x, h0, h1, h2, h3, h4, h5, i1, i2, i3⟩ := val_cells hf
  exact ⟨x, by rw [h0, h1, h2, h3, h4, h5], i1, i2, i3⟩
theorem addr_none (b o n : Nat) : (⟨b, o, none⟩ : Addr).add n = ⟨b, o + n, none⟩ := by
  unfold Addr.add
  split
  · rename_i h; rw [h]; rfl
  · rfl
/-- a row of Values that came in, opened -/
theorem open_vals {H : Type} {enc : TypeId × Value → H} {W : World} {r : Reach} {b0 base : Nat} {v : Value} {d : DataW H} {p : List MemPlace}
    (hval : Value.okWide Try.prog W r b0 54 v) (h : DataW.Trod enc Try.prog W base (fun _ => true) true 54 v d p) : ∃ a cap ts, v = .slice a (List.length ts) cap ∧ RowR W a ts := by
  obtain ⟨fuel, hf⟩ := h
  obtain ⟨a, len, cap, rfl⟩ := okWide_slice Try.underlying54 hval
  rcases open_slice Try.underlying54 hf with ⟨hcs, _⟩ | ⟨x, l, c, m, n, D, Pl, hcs, _, hl, _, hmm, hx, hall⟩
  · simp [Value.cells] at hcs
    obtain ⟨rfl, rfl, rfl⟩ := hcs
    exact ⟨none, 0, [], rfl, fun m t h => by simp at h⟩
  · simp [Value.cells] at hcs
    obtain ⟨rfl, rfl, rfl⟩ := hcs
    simp only [if_true] at hmm
    subst hmm
    have each : ∀ i, i < len → ∃ t : R, (i64 t.n ∧ i64 t.lo ∧ i64 t.hi) ∧ W.cell? (x.add (i * 6)) = some (.int .i64 t.s) ∧ W.cell? (x.add (i * 6 + 1)) = some (.bool t.k) ∧ W.cell? (x.add (i * 6 + 2)) = some (.int .i64 t.n) ∧ W.cell? (x.add (i * 6 + 3)) = some (.int .i64 t.lo) ∧ W.cell? (x.add (i * 6 + 4)) = some (.int .i64 t.hi) ∧ W.cell? (x.add (i * 6 + 5)) = some (.int .i64 t.p) := by
      intro i hi
      obtain ⟨cs', h1, h2⟩ := hall i (by omega)
      rw [Try.cells27] at h1
      obtain ⟨_, hlen, hcell⟩ := World.cells?_some h1
      have hc2 : ∃ v0 v1 v2 v3 v4 v5, cs' = [v0, v1, v2, v3, v4, v5] := by
        match cs', hlen with
        | [v0, v1, v2, v3, v4, v5], _ => exact ⟨v0, v1, v2, v3, v4, v5, rfl⟩
      obtain ⟨v0, v1, v2, v3, v4, v5, rfl⟩ := hc2
      obtain ⟨t, e0, e1, e2, e3, e4, e5, i1, i2, i3⟩ := val_cells h2
      have d0 := hcell 0 (by omega)
      have d1 := hcell 1 (by omega)
      have d2 := hcell 2 (by omega)
      have d3 := hcell 3 (by omega)
      have d4 := hcell 4 (by omega)
      have d5 := hcell 5 (by omega)
      rw [Go.Deep.add_add] at d0 d1 d2 d3 d4 d5
      refine ⟨t, ⟨i1, i2, i3⟩, ?_, ?_, ?_, ?_, ?_, ?_⟩
      · rw [e0] at d0; simpa using d0
      · rw [e1] at d1; simpa using d1
      · rw [e2] at d2; simpa using d2
      · rw [e3] at d3; simpa using d3
      · rw [e4] at d4; simpa using d4
      · rw [e5] at d5; simpa using d5
    haveI : Inhabited R := ⟨⟨0, false, 0, 0, 0, 0⟩⟩
    obtain ⟨T, hT⟩ := choose_lt each
    refine ⟨some x, _, (List.range len).map T, by rw [List.length_map, List.length_range], ?_⟩
    intro i t hi
    simp only [List.getElem?_map, Option.map_eq_some_iff] at hi
    obtain ⟨n', hn', rfl⟩ := hi
    obtain ⟨hlt, hn''⟩ := List.getElem?_eq_some_iff.1 hn'
    simp at hlt hn''
    subst hn''
    obtain ⟨j0, d0, d1, d2, d3, d4, d5⟩ := hT i hlt
    obtain ⟨b, o, s⟩ := x
    have z0 := (hT 0 (by omega)).2.1
    have hsn : s = none := by simpa [Addr.add] using World.cell?_spot z0
    subst hsn
    rw [addr_none] at d0 d1 d2 d3 d4 d5
    refine ⟨j0.1, j0.2.1, j0.2.2, b, o, rfl, d0, ?_, ?_, ?_, ?_, ?_⟩
    · rw [← Nat.add_assoc] at d1; exact d1
    · rw [← Nat.add_assoc] at d2; exact d2
    · rw [← Nat.add_assoc] at d3; exact d3
    · rw [← Nat.add_assoc] at d4; exact d4
    · rw [← Nat.add_assoc] at d5; exact d5
end Go.Proofs.Ytfndahdnbkmkkaa
