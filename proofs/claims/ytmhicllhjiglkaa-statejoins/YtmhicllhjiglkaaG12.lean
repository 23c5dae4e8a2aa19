import Derived.Test.YtmhicllhjiglkaaRows
import Derived.Test.YtmhicllhjiglkaaG03
import Derived.OpenShut
import Derived.ShutString
import Derived.ChangeOld
import Derived.WideKeyPair
import Derived.Deep.Slices
import Derived.Deep.Matrix
import Derived.ChangeSame
namespace Go.Proofs.Ytmhicllhjiglkaa
open Go.ChangeShapes Go.WideShapes Go.ChangeAt Go.RowKit Go.Deep
theorem own : ownKnob Try.prog.godebug = none := by kernel_rfl
theorem laidOut : laidOutB Try.prog = true := by kernel_rfl
theorem i64_of_wf {n : Int} (h : (Lit.int .i64 n).wf = true) : i64 n := by
  simp only [Lit.wf, Bool.and_eq_true, decide_eq_true_eq] at h
  exact ⟨h.1, h.2⟩
theorem Try.cells38 : Try.prog.cellsOf 38 = 1 := by kernel_rfl
theorem Try.cells22 : Try.prog.cellsOf 22 = 1 := by kernel_rfl
theorem Try.cells23 : Try.prog.cellsOf 23 = 1 := by kernel_rfl
theorem Try.cells25 : Try.prog.cellsOf 25 = 3 := by kernel_rfl
theorem Try.cells42 : Try.prog.cellsOf 42 = 3 := by kernel_rfl
theorem Try.cells2 : Try.prog.cellsOf 2 = 1 := by kernel_rfl
theorem Try.cells3 : Try.prog.cellsOf 3 = 1 := by kernel_rfl
theorem Try.cells4 : Try.prog.cellsOf 4 = 1 := by kernel_rfl
theorem Try.cells44 : Try.prog.cellsOf 44 = 2 := by kernel_rfl
theorem Try.cells46 : Try.prog.cellsOf 46 = 2 := by kernel_rfl
theorem Try.cells48 : Try.prog.cellsOf 48 = 6 := by kernel_rfl
theorem six_of {cs : Array Value} (h : cs.size = 6) : ∃ c0 c1 c2 c3 c4 c5, cs = #[c0, c1, c2, c3, c4, c5] := by
  obtain ⟨l⟩ := cs
  match l, h with
  | [c0, c1, c2, c3, c4, c5], _ => exact ⟨c0, c1, c2, c3, c4, c5, rfl⟩
/-- the two cells of a Known, of a Span -/
theorem known_cells {H : Type} {enc : TypeId × Value → H} {W : World} {base : Nat} {sp : Nat → Bool} {held : Bool} {fuel : Nat} {c0 c1 : Value} {d : DataW H × List MemPlace}
    (hf : DataW.trod enc Try.prog W base sp held fuel 44 [c0, c1] = some d) : ∃ a b, c0 = .bool a ∧ c1 = .int .i64 b ∧ i64 b := by
  obtain ⟨d1, d2⟩ := d
  obtain ⟨xs, m, _, _, _, hl, hx⟩ := DataW.trod_struct Try.underlying44 hf
  have g0 : DataW.trod enc Try.prog W base sp held m 4 (([c0, c1].drop 0).take (Try.prog.cellsOf 4)) = xs[0]? := hx 0 _ rfl
  have g1 : DataW.trod enc Try.prog W base sp held m 2 (([c0, c1].drop 1).take (Try.prog.cellsOf 2)) = xs[1]? := hx 1 _ rfl
  rw [Try.cells4] at g0
  rw [Try.cells2] at g1
  simp only [List.drop, List.take] at g0 g1
  have hl2 : xs.length = 2 := hl
  cases e0 : xs[0]? with
  | none => have := List.getElem?_eq_none_iff.1 e0; omega
  | some y0 =>
    cases e1 : xs[1]? with
    | none => have := List.getElem?_eq_none_iff.1 e1; omega
    | some y1 =>
      rw [e0] at g0
      rw [e1] at g1
      obtain ⟨a, ha, _⟩ := DataW.trod_bool Try.underlying4 g0
      obtain ⟨b, hb, _, wb⟩ := DataW.trod_int Try.underlying2 g1
      simp at ha hb
      exact ⟨a, b, ha, hb, i64_of_wf wb⟩
theorem span_cells {H : Type} {enc : TypeId × Value → H} {W : World} {base : Nat} {sp : Nat → Bool} {held : Bool} {fuel : Nat} {c0 c1 : Value} {d : DataW H × List MemPlace}
    (hf : DataW.trod enc Try.prog W base sp held fuel 46 [c0, c1] = some d) : ∃ a b, c0 = .int .i64 a ∧ c1 = .int .i64 b ∧ i64 a ∧ i64 b := by
  obtain ⟨d1, d2⟩ := d
  obtain ⟨xs, m, _, _, _, hl, hx⟩ := DataW.trod_struct Try.underlying46 hf
  have g0 : DataW.trod enc Try.prog W base sp held m 2 (([c0, c1].drop 0).take (Try.prog.cellsOf 2)) = xs[0]? := hx 0 _ rfl
  have g1 : DataW.trod enc Try.prog W base sp held m 2 (([c0, c1].drop 1).take (Try.prog.cellsOf 2)) = xs[1]? := hx 1 _ rfl
  rw [Try.cells2] at g0 g1
  simp only [List.drop, List.take] at g0 g1
  have hl2 : xs.length = 2 := hl
  cases e0 : xs[0]? with
  | none => have := List.getElem?_eq_none_iff.1 e0; omega
  | some y0 =>
    cases e1 : xs[1]? with
    | none => have := List.getElem?_eq_none_iff.1 e1; omega
    | some y1 =>
      rw [e0] at g0
      rw [e1] at g1
      obtain ⟨a, ha, _, wa⟩ := DataW.trod_int Try.underlying2 g0
      obtain ⟨b, hb, _, wb⟩ := DataW.trod_int Try.underlying2 g1
      simp at ha hb
      exact ⟨a, b, ha, hb, i64_of_wf wa, i64_of_wf wb⟩
/-- the six cells of a Value -/
theorem val_cells {H : Type} {enc : TypeId × Value → H} {W : World} {base : Nat} {sp : Nat → Bool} {held : Bool} {fuel : Nat} {c0 c1 c2 c3 c4 c5 : Value} {d : DataW H × List MemPlace}
    (hf : DataW.trod enc Try.prog W base sp held fuel 48 [c0, c1, c2, c3, c4, c5] = some d) : ∃ r : R, c0 = .int .i64 r.s ∧ c1 = .bool r.k ∧ c2 = .int .i64 r.n ∧ c3 = .int .i64 r.lo ∧ c4 = .int .i64 r.hi ∧ c5 = .int .i64 r.p ∧ i64 r.n ∧ i64 r.lo ∧ i64 r.hi := by
  obtain ⟨d1, d2⟩ := d
  obtain ⟨xs, m, _, _, _, hl, hx⟩ := DataW.trod_struct Try.underlying48 hf
  have g0 : DataW.trod enc Try.prog W base sp held m 3 (([c0, c1, c2, c3, c4, c5].drop 0).take (Try.prog.cellsOf 3)) = xs[0]? := hx 0 _ rfl
  have g1 : DataW.trod enc Try.prog W base sp held m 44 (([c0, c1, c2, c3, c4, c5].drop 1).take (Try.prog.cellsOf 44)) = xs[1]? := hx 1 _ rfl
  have g2 : DataW.trod enc Try.prog W base sp held m 46 (([c0, c1, c2, c3, c4, c5].drop 3).take (Try.prog.cellsOf 46)) = xs[2]? := hx 2 _ rfl
  have g3 : DataW.trod enc Try.prog W base sp held m 3 (([c0, c1, c2, c3, c4, c5].drop 5).take (Try.prog.cellsOf 3)) = xs[3]? := hx 3 _ rfl
  rw [Try.cells3] at g0 g3
  rw [Try.cells44] at g1
  rw [Try.cells46] at g2
  simp only [List.drop, List.take] at g0 g1 g2 g3
  have hl2 : xs.length = 4 := hl
  cases e0 : xs[0]? with
  | none => have := List.getElem?_eq_none_iff.1 e0; omega
  | some y0 =>
    cases e1 : xs[1]? with
    | none => have := List.getElem?_eq_none_iff.1 e1; omega
    | some y1 =>
      cases e2 : xs[2]? with
      | none => have := List.getElem?_eq_none_iff.1 e2; omega
      | some y2 =>
        cases e3 : xs[3]? with
        | none => have := List.getElem?_eq_none_iff.1 e3; omega
        | some y3 =>
          rw [e0] at g0
          rw [e1] at g1
          rw [e2] at g2
          rw [e3] at g3
          obtain ⟨a, ha, _, _⟩ := DataW.trod_int Try.underlying3 g0
          obtain ⟨k, n, hk, hn, wn⟩ := known_cells g1
          obtain ⟨l, h, hl, hh, wl, wh⟩ := span_cells g2
          obtain ⟨b, hb, _, _⟩ := DataW.trod_int Try.underlying3 g3
          simp at ha hb
          exact ⟨⟨a, k, n, l, h, b⟩, ha, hk, hn, hl, hh, hb, wn, wl, wh⟩
set_option maxRecDepth 100000 in
theorem open_val {H : Type} {enc : TypeId × Value → H} {W : World} {r : Reach} {b0 base : Nat} {sp : Nat → Bool} {held : Bool} {v : Value} {d : DataW H} {p : List MemPlace}
    (hval : Value.okWide Try.prog W r b0 48 v) (h : DataW.Trod enc Try.prog W base sp held 48 v d p) : ∃ x : R, v = .agg #[.int .i64 x.s, .bool x.k, .int .i64 x.n, .int .i64 x.lo, .int .i64 x.hi, .int .i64 x.p] ∧ i64 x.n ∧ i64 x.lo ∧ i64 x.hi := by
  obtain ⟨cs, rfl, h2⟩ := okWide_struct Try.underlying48 hval
  rw [Try.cells48] at h2
  obtain ⟨c0, c1, c2, c3, c4, c5, rfl⟩ := six_of h2
  obtain ⟨fuel, hf⟩ := h
  obtain ⟨x, h0, h1, h2, h3, h4, h5, i1, i2, i3⟩ := val_cells hf
  exact ⟨x, by rw [h0, h1, h2, h3, h4, h5], i1, i2, i3⟩
/-- a row of Values that came in, opened -/
theorem vals_cells {H : Type} {enc : TypeId × Value → H} {W : World} {base : Nat} {fuel : Nat} {cc : Value} {d : DataW H × List MemPlace}
    (hf : DataW.trod enc Try.prog W base (fun _ => true) true fuel 22 [cc] = some d) : ∃ a cap, ∃ ts : List R, cc = .slice a (List.length ts) cap ∧ RV W a ts ∧ (∀ (m : Nat) (x : R), ts[m]? = some x → i64 x.n ∧ i64 x.lo ∧ i64 x.hi) ∧ ts.length ≤ cap ∧ (a = none → cap = 0) := by
  rcases open_slice Try.underlying22 hf with ⟨hcs, _⟩ | ⟨x, l, c, m, n, D, Pl, hcs, _, hl, _, hmm, hx, hall⟩
  · simp at hcs
    subst hcs
    exact ⟨none, 0, [], rfl, RV.nil _ _, fun m t h => by simp at h, Nat.le_refl _, fun _ => rfl⟩
  · simp at hcs
    subst hcs
    simp only [if_true] at hmm
    subst hmm
    have each : ∀ i, i < l → ∃ t : R, (i64 t.n ∧ i64 t.lo ∧ i64 t.hi) ∧ W.cell? (x.add (i * 6)) = some (.int .i64 t.s) ∧ W.cell? (x.add (i * 6 + 1)) = some (.bool t.k) ∧ W.cell? (x.add (i * 6 + 2)) = some (.int .i64 t.n) ∧ W.cell? (x.add (i * 6 + 3)) = some (.int .i64 t.lo) ∧ W.cell? (x.add (i * 6 + 4)) = some (.int .i64 t.hi) ∧ W.cell? (x.add (i * 6 + 5)) = some (.int .i64 t.p) := by
      intro i hi
      obtain ⟨cs', h1, h2⟩ := hall i (by omega)
      rw [Try.cells48] at h1
      obtain ⟨_, hlen, hcell⟩ := World.cells?_some h1
      have hc2 : ∃ v0 v1 v2 v3 v4 v5, cs' = [v0, v1, v2, v3, v4, v5] := by
        match cs', hlen with
        | [v0, v1, v2, v3, v4, v5], _ => exact ⟨v0, v1, v2, v3, v4, v5, rfl⟩
      obtain ⟨v0, v1, v2, v3, v4, v5, rfl⟩ := hc2
      obtain ⟨t, e0, e1, e2, e3, e4, e5, i1, i2, i3⟩ := val_cells h2
      have d0 := hcell 0 (by omega)
      have d1 := hcell 1 (by omega)
      have d2 := hcell 2 (by omega)
      have d3 := hcell 3 (by omega)
      have d4 := hcell 4 (by omega)
      have d5 := hcell 5 (by omega)
      rw [Go.Deep.add_add] at d0 d1 d2 d3 d4 d5
      refine ⟨t, ⟨i1, i2, i3⟩, ?_, ?_, ?_, ?_, ?_, ?_⟩
      · rw [e0] at d0; simpa using d0
      · rw [e1] at d1; simpa using d1
      · rw [e2] at d2; simpa using d2
      · rw [e3] at d3; simpa using d3
      · rw [e4] at d4; simpa using d4
      · rw [e5] at d5; simpa using d5
    haveI : Inhabited R := ⟨⟨0, false, 0, 0, 0, 0⟩⟩
    obtain ⟨T, hT⟩ := choose_lt each
    obtain ⟨b, o, s⟩ := x
    by_cases hl0 : l = 0
    · subst hl0
      exact ⟨_, _, [], rfl, RV.nil _ _, fun m t h => by simp at h, Nat.zero_le _, fun e => by cases e⟩
    have z0 := (hT 0 (by omega)).2.1
    have hsn : s = none := by simpa [Addr.add] using World.cell?_spot z0
    subst hsn
    refine ⟨some ⟨b, o, none⟩, _, (List.range l).map T, by rw [List.length_map, List.length_range], ?_, ?_, by simpa using hl, fun e => by cases e⟩
    · intro i t hi
      simp only [List.getElem?_map, Option.map_eq_some_iff] at hi
      obtain ⟨n', hn', rfl⟩ := hi
      obtain ⟨hlt, hn''⟩ := List.getElem?_eq_some_iff.1 hn'
      simp at hlt hn''
      subst hn''
      obtain ⟨j0, d0, d1, d2, d3, d4, d5⟩ := hT i hlt
      rw [addr_none] at d0 d1 d2 d3 d4 d5
      refine ⟨b, o, rfl, d0, ?_, ?_, ?_, ?_, ?_⟩
      · rw [← Nat.add_assoc] at d1; exact d1
      · rw [← Nat.add_assoc] at d2; exact d2
      · rw [← Nat.add_assoc] at d3; exact d3
      · rw [← Nat.add_assoc] at d4; exact d4
      · rw [← Nat.add_assoc] at d5; exact d5
    · intro i t hi
      simp only [List.getElem?_map, Option.map_eq_some_iff] at hi
      obtain ⟨n', hn', rfl⟩ := hi
      obtain ⟨hlt, hn''⟩ := List.getElem?_eq_some_iff.1 hn'
      simp at hlt hn''
      subst hn''
      exact (hT i hlt).1
/-- rows of numbers that came in, opened -/
theorem rows_cells {H : Type} {enc : TypeId × Value → H} {W : World} {base : Nat} {fuel : Nat} {cc : Value} {d : DataW H × List MemPlace}
    (hf : DataW.trod enc Try.prog W base (fun _ => true) true fuel 23 [cc] = some d) : ∃ b dd, ∃ ss : List (List Int), cc = .slice b (List.length ss) dd ∧ RR W b ss ∧ ss.length ≤ dd ∧ (b = none → dd = 0) := by
  rcases open_int_rows Try.underlying23 Try.underlying38 Try.underlying3 Try.cells38 Try.cells3 hf with ⟨hcs, _⟩ | ⟨x, len, cap, A, L, C, Z, hcs, _, hl, _, _, hall⟩
  · simp at hcs
    subst hcs
    exact ⟨none, 0, [], rfl, RR.nil _ _, Nat.le_refl _, fun _ => rfl⟩
  · simp at hcs
    subst hcs
    obtain ⟨b, o, s⟩ := x
    by_cases hl0 : cap = 0
    · have : len = 0 := by omega
      subst this
      exact ⟨_, _, [], rfl, RR.nil _ _, Nat.zero_le _, fun e => by cases e⟩
    have z0 := (hall 0 (by omega)).1
    have hsn : s = none := by simpa [Addr.add] using World.cell?_spot z0
    subst hsn
    refine ⟨some ⟨b, o, none⟩, cap, (List.range len).map (fun r => (Z r).take (L r)), by rw [List.length_map, List.length_range], ?_, by simpa using hl, fun e => by cases e⟩
    intro i l hi
    simp only [List.getElem?_map, Option.map_eq_some_iff] at hi
    obtain ⟨n', hn', rfl⟩ := hi
    obtain ⟨hlt, hn''⟩ := List.getElem?_eq_some_iff.1 hn'
    simp at hlt hn''
    subst hn''
    obtain ⟨h1, h2, h3, h4, h5, h6, h7⟩ := hall i (by omega)
    rw [addr_none] at h1
    have hlen : ((Z i).take (L i)).length = L i := by rw [List.length_take]; omega
    refine ⟨b, o, _, rfl, h1, A i, C i, by rw [hlen], fun m y hm => ?_, by rw [hlen]; exact h2, h6⟩
    have hmL : m < L i := by
      rcases Nat.lt_or_ge m (L i) with t | t
      · exact t
      · rw [List.getElem?_eq_none (by rw [hlen]; exact t)] at hm; cases hm
    have hmC : m < C i := by omega
    rw [List.getElem?_take, if_pos hmL] at hm
    cases hA : A i with
    | none => have := h6 hA; omega
    | some ad =>
      obtain ⟨b2, o2, s2⟩ := ad
      have h8 := (h7 _ hA).2
      have z1 := h8 0 (by omega)
      have hs2 : s2 = none := by simpa [Addr.add] using World.cell?_spot z1
      subst hs2
      have h9 := h8 m hmC
      rw [addr_none] at h9
      refine ⟨b2, o2, rfl, ?_⟩
      rw [h9, List.getD_eq_getElem?_getD, hm]; rfl
set_option maxRecDepth 100000 in
/-- a State that came in, opened -/
theorem open_state {H : Type} {enc : TypeId × Value → H} {W : World} {r : Reach} {b0 base : Nat} {v : Value} {d : DataW H} {p : List MemPlace}
    (hval : Value.okWide Try.prog W r b0 25 v) (h : DataW.Trod enc Try.prog W base (fun _ => true) true 25 v d p) : ∃ rr a c b dd, ∃ (vs : List R) (ss : List (List Int)), v = .agg #[.bool rr, .slice a vs.length c, .slice b ss.length dd] ∧ RV W a vs ∧ RR W b ss ∧ (∀ (m : Nat) (x : R), vs[m]? = some x → i64 x.n ∧ i64 x.lo ∧ i64 x.hi) ∧ vs.length ≤ c ∧ ss.length ≤ dd ∧ (a = none → c = 0) ∧ (b = none → dd = 0) := by
  obtain ⟨cs, rfl, h2⟩ := okWide_struct Try.underlying25 hval
  rw [Try.cells25] at h2
  obtain ⟨c0, c1, c2, rfl⟩ : ∃ c0 c1 c2, cs = #[c0, c1, c2] := by
    obtain ⟨l⟩ := cs
    match l, h2 with
    | [c0, c1, c2], _ => exact ⟨c0, c1, c2, rfl⟩
  obtain ⟨fuel, hf⟩ := h
  have hf' : DataW.trod enc Try.prog W base (fun _ => true) true fuel 25 [c0, c1, c2] = some (d, p) := hf
  obtain ⟨xs, m, _, _, _, hl, hx⟩ := DataW.trod_struct Try.underlying25 hf'
  have g0 : DataW.trod enc Try.prog W base (fun _ => true) true m 4 (([c0, c1, c2].drop 0).take (Try.prog.cellsOf 4)) = xs[0]? := hx 0 _ rfl
  have g1 : DataW.trod enc Try.prog W base (fun _ => true) true m 22 (([c0, c1, c2].drop 1).take (Try.prog.cellsOf 22)) = xs[1]? := hx 1 _ rfl
  have g2 : DataW.trod enc Try.prog W base (fun _ => true) true m 23 (([c0, c1, c2].drop 2).take (Try.prog.cellsOf 23)) = xs[2]? := hx 2 _ rfl
  rw [Try.cells4] at g0
  rw [Try.cells22] at g1
  rw [Try.cells23] at g2
  simp only [List.drop, List.take] at g0 g1 g2
  have hl2 : xs.length = 3 := hl
  cases e0 : xs[0]? with
  | none => have := List.getElem?_eq_none_iff.1 e0; omega
  | some y0 =>
    cases e1 : xs[1]? with
    | none => have := List.getElem?_eq_none_iff.1 e1; omega
    | some y1 =>
      cases e2 : xs[2]? with
      | none => have := List.getElem?_eq_none_iff.1 e2; omega
      | some y2 =>
        rw [e0] at g0
        rw [e1] at g1
        rw [e2] at g2
        obtain ⟨rr, ha, _⟩ := DataW.trod_bool Try.underlying4 g0
        obtain ⟨a, c, vs, rfl, k1, k2, k3, k4⟩ := vals_cells g1
        obtain ⟨b, dd, ss, rfl, k5, k6, k7⟩ := rows_cells g2
        simp at ha
        subst ha
        exact ⟨rr, a, c, b, dd, vs, ss, rfl, k1, k5, k2, k3, k6, k4, k7⟩
set_option maxRecDepth 100000 in
/-- how a function begins, as it came in, opened -/
theorem open_args {H : Type} {enc : TypeId × Value → H} {W : World} {r : Reach} {b0 base : Nat} {v : Value} {d : DataW H} {p : List MemPlace}
    (hval : Value.okWide Try.prog W r b0 42 v) (h : DataW.Trod enc Try.prog W base (fun _ => true) true 42 v d p) : ∃ n first a c, ∃ (vs : List R), v = .agg #[.int .i64 n, .slice a vs.length c, .int .i64 first] ∧ RV W a vs ∧ (∀ (m : Nat) (x : R), vs[m]? = some x → i64 x.n ∧ i64 x.lo ∧ i64 x.hi) := by
  obtain ⟨cs, rfl, h2⟩ := okWide_struct Try.underlying42 hval
  rw [Try.cells42] at h2
  obtain ⟨c0, c1, c2, rfl⟩ : ∃ c0 c1 c2, cs = #[c0, c1, c2] := by
    obtain ⟨l⟩ := cs
    match l, h2 with
    | [c0, c1, c2], _ => exact ⟨c0, c1, c2, rfl⟩
  obtain ⟨fuel, hf⟩ := h
  have hf' : DataW.trod enc Try.prog W base (fun _ => true) true fuel 42 [c0, c1, c2] = some (d, p) := hf
  obtain ⟨xs, m, _, _, _, hl, hx⟩ := DataW.trod_struct Try.underlying42 hf'
  have g0 : DataW.trod enc Try.prog W base (fun _ => true) true m 3 (([c0, c1, c2].drop 0).take (Try.prog.cellsOf 3)) = xs[0]? := hx 0 _ rfl
  have g1 : DataW.trod enc Try.prog W base (fun _ => true) true m 22 (([c0, c1, c2].drop 1).take (Try.prog.cellsOf 22)) = xs[1]? := hx 1 _ rfl
  have g2 : DataW.trod enc Try.prog W base (fun _ => true) true m 3 (([c0, c1, c2].drop 2).take (Try.prog.cellsOf 3)) = xs[2]? := hx 2 _ rfl
  rw [Try.cells3] at g0 g2
  rw [Try.cells22] at g1
  simp only [List.drop, List.take] at g0 g1 g2
  have hl2 : xs.length = 3 := hl
  cases e0 : xs[0]? with
  | none => have := List.getElem?_eq_none_iff.1 e0; omega
  | some y0 =>
    cases e1 : xs[1]? with
    | none => have := List.getElem?_eq_none_iff.1 e1; omega
    | some y1 =>
      cases e2 : xs[2]? with
      | none => have := List.getElem?_eq_none_iff.1 e2; omega
      | some y2 =>
        rw [e0] at g0
        rw [e1] at g1
        rw [e2] at g2
        obtain ⟨n, ha, _, _⟩ := DataW.trod_int Try.underlying3 g0
        obtain ⟨a, c, vs, rfl, k1, k2, k3, k4⟩ := vals_cells g1
        obtain ⟨first, hb, _, _⟩ := DataW.trod_int Try.underlying3 g2
        simp at ha hb
        subst ha hb
        exact ⟨n, first, a, c, vs, rfl, k1, k2⟩
end Go.Proofs.Ytmhicllhjiglkaa
