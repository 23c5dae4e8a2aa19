import Derived.Test.YtmhicllhjiglkaaRows
import Derived.Test.YtmhicllhjiglkaaG03
import Derived.OpenShut
import Derived.ShutString
import Derived.ChangeOld
import Derived.WideKeyPair
import Derived.Deep.Slices
import Derived.Deep.Matrix
import Derived.ChangeSame
namespace Go.Proofs.Ytmhicllhjiglkaa
open Go.ChangeShapes Go.WideShapes Go.ChangeAt Go.RowKit Go.Deep
theorem own : ownKnob Try.prog.godebug = none := by kernel_rfl
theorem laidOut : laidOutB Try.prog = true := by kernel_rfl
theorem i64_of_wf {n : Int} (h : (Lit.int .i64 n).wf = true) : i64 n := by
  simp only [Lit.wf, Bool.and_eq_true, decide_eq_true_eq] at h
  exact ⟨h.1, h.2⟩
theorem Try.cells38 : Try.prog.cellsOf 38 = 1 := by kernel_rfl
theorem Try.cells22 : Try.prog.cellsOf 22 = 1 := by kernel_rfl
theorem Try.cells23 : Try.prog.cellsOf 23 = 1 := by kernel_rfl
theorem Try.cells25 : Try.prog.cellsOf 25 = 3 := by kernel_rfl
theorem Try.cells42 : Try.prog.cellsOf 42 = 3 := by kernel_rfl
theorem Try.cells2 : Try.prog.cellsOf 2 = 1 := by kernel_rfl
theorem Try.cells3 : Try.prog.cellsOf 3 = 1 := by kernel_rfl
theorem Try.cells4 : Try.prog.cellsOf 4 = 1 := by kernel_rfl
theorem Try.cells44 : Try.prog.cellsOf 44 = 2 := by kernel_rfl
theorem Try.cells46 : Try.prog.cellsOf 46 = 2 := by kernel_rfl
theorem Try.cells48 : Try.prog.cellsOf 48 = 6 := by kernel_rfl
theorem six_of {cs : Array Value} (h : cs.size = 6) : ∃ c0 c1 c2 c3 c4 c5, cs = #[c0, c1, c2, c3, c4, c5] := by
  obtain ⟨l⟩ := cs
  match l, h with
  | [c0, c1, c2, c3, c4, c5], _ => exact ⟨c0, c1, c2, c3, c4, c5, rfl⟩
/-- the two cells of a Known, of a Span -/
theorem known_cells {H : Type} {enc : TypeId × Value → H} {W : World} {base : Nat} {sp : Nat → Bool} {held : Bool} {fuel : Nat} {c0 c1 : Value} {d : DataW H × List MemPlace}
    (hf : DataW.trod enc Try.prog W base sp held fuel 44 [c0, c1] = some d) : ∃ a b, c0 = .bool a ∧ c1 = .int .i64 b ∧ i64 b := by
  obtain ⟨d1, d2⟩ := d
  obtain ⟨xs, m, _, _, _, hl, hx⟩ := DataW.trod_struct Try.underlying44 hf
  have g0 : DataW.trod enc Try.prog W base sp held m 4 (([c0, c1].drop 0).take (Try.prog.cellsOf 4)) = xs[0]? := hx 0 _ rfl
  have g1 : DataW.trod enc Try.prog W base sp held m 2 (([c0, c1].drop 1).take (Try.prog.cellsOf 2)) = xs[1]? := hx 1 _ rfl
  rw [Try.cells4] at g0
  rw [Try.cells2] at g1
  simp only [List.drop, List.take] at g0 g1
  have hl2 : xs.length = 2 := hl
  cases e0 : xs[0]? with
  | none => have := List.getElem?_eq_none_iff.1 e0; omega
  | some y0 =>
    cases e1 : xs[1]? with
    | none => have := List.getElem?_eq_none_iff.1 e1; omega
    | some y1 =>
      rw [e0] at g0
      rw [e1] at g1
      obtain ⟨a, ha, _⟩ := DataW.trod_bool Try.underlying4 g0
      obtain ⟨b, hb, _, wb⟩ := DataW.trod_int Try.underlying2 g1
      simp at ha hb
      exact ⟨a, b, ha, hb, i64_of_wf wb⟩
theorem span_cells {H : Type} {enc : TypeId × Value → H} {W : World} {base : Nat} {sp : Nat → Bool} {held : Bool} {fuel : Nat} {c0 c1 : Value} {d : DataW H × List MemPlace}
    (hf : DataW.trod enc Try.prog W base sp held fuel 46 [c0, c1] = some d) : ∃ a b, c0 = .int .i64 a ∧ c1 = .int .i64 b ∧ i64 a ∧ i64 b := by
  obtain ⟨d1, d2⟩ := d
  obtain ⟨xs, m, _, _, _, hl, hx⟩ := DataW.trod_struct Try.underlying46 hf
  have g0 : DataW.trod enc Try.prog W base sp held m 2 (([c0, c1].drop 0).take (Try.prog.cellsOf 2)) = xs[0]? := hx 0 _ rfl
  have g1 : DataW.trod enc Try.prog W base sp held m 2 (([c0, c1].drop 1).take (Try.prog.cellsOf 2)) = xs[1]? := hx 1 _ rfl
  rw [Try.cells2] at g0 g1
  simp only [List.drop, List.take] at g0 g1
  have hl2 : xs.length = 2 := hl
  cases e0 : xs[0]? with
  | none => have := List.getElem?_eq_none_iff.1 e0; omega
  | some y0 =>
    cases e1 : xs[1]? with
    | none => have := List.getElem?_eq_none_iff.1 e1; omega
    | some y1 =>
      rw [e0] at g0
      rw [e1] at g1
      obtain ⟨a, ha, _, wa⟩ := DataW.trod_int Try.underlying2 g0
      obtain ⟨b, hb, _, wb⟩ := DataW.trod_int Try.underlying2 g1
      simp at ha hb
      exact ⟨a, b, ha, hb, i64_of_wf wa, i64_of_wf wb⟩
/-- the six cells of a Value -/
theorem val_cells {H : Type} {enc : TypeId × Value → H} {W : World} {base : Nat} {sp : Nat → Bool} {held : Bool} {fuel : Nat} {c0 c1 c2 c3 c4 c5 : Value} {d : DataW H × List MemPlace}
    (hf : DataW.trod enc Try.prog W base sp held fuel 48 [c0, c1, c2, c3, c4, c5] = some d) : ∃ r : R, c0 = .int .i64 r.s ∧ c1 = .bool r.k ∧ c2 = .int .i64 r.n ∧ c3 = .int .i64 r.lo ∧ c4 = .int .i64 r.hi ∧ c5 = .int .i64 r.p ∧ i64 r.n ∧ i64 r.lo ∧ i64 r.hi := by
  obtain ⟨d1, d2⟩ := d
  obtain ⟨xs, m, _, _, _, hl, hx⟩ := DataW.trod_struct Try.underlying48 hf
  have g0 : DataW.trod enc Try.prog W base sp held m 3 (([c0, c1, c2, c3, c4, c5].drop 0).take (Try.prog.cellsOf 3)) = xs[0]? := hx 0 _ rfl
  have g1 : DataW.trod enc Try.prog W base sp held m 44 (([c0, c1, c2, c3, c4, c5].drop 1).take (Try.prog.cellsOf 44)) = xs[1]? := hx 1 _ rfl
  have g2 : DataW.trod enc Try.prog W base sp held m 46 (([c0, c1, c2, c3, c4, c5].drop 3).take (Try.prog.cellsOf 46)) = xs[2]? := hx 2 _ rfl
  have g3 : DataW.trod enc Try.prog W base sp held m 3 (([c0, c1, c2, c3, c4, c5].drop 5).take (Try.prog.cellsOf 3)) = xs[3]? := hx 3 _ rfl
  rw [Try.cells3] at g0 g3
  rw [Try.cells44] at g1
  rw [Try.cells46] at g2
  simp only [List.drop, List.take] at g0 g1 g2 g3
  have hl2 : xs.length = 4 := hl
  cases e0 : xs[0]? with
  | none => have := List.getElem?_eq_none_iff.1 e0; omega
  | some y0 =>
    cases e1 : xs[1]? with
    | none => have := List.getElem?_eq_none_iff.1 e1; omega
    | some y1 =>
      cases e2 : xs[2]? with
      | none => have := List.getElem?_eq_none_iff.1 e2; omega
      | some y2 =>
        cases e3 : xs[3]? with
        | none => have := List.getElem?_eq_none_iff.1 e3; omega
        | some y3 =>
          rw [e0] at g0
          rw [e1] at g1
          rw [e2] at g2
          rw [e3] at g3
          obtain ⟨a, ha, _, _⟩ := DataW.trod_int Try.underlying3 g0
          obtain ⟨k, n, hk, hn, wn⟩ := known_cells g1
          obtain ⟨l, h, hl, hh, wl, wh⟩ := span_cells g2
          obtain ⟨b, hb, _, _⟩ := DataW.trod_int Try.underlying3 g3
          simp at ha hb
          exact ⟨⟨a, k, n, l, h, b⟩, ha, hk, hn, hl, hh, hb, wn, wl, wh⟩
set_option maxRecDepth 100000 in
theorem open_val {H : Type} {enc : TypeId × Value → H} {W : World} {r : Reach} {b0 base : Nat} {sp : Nat → Bool} {held : Bool} {v : Value} {d : DataW H} {p : List MemPlace}
    (hval : Value.okWide Try.prog W r b0 48 v) (h : DataW.Trod enc Try.prog W base sp held 48 v d p) : ∃ x : R, v = .agg #[.int .i64 x.s, .bool x.k, .int .i64 x.n, .int .i64 x.lo, .int .i64 x.hi, .int .i64 x.p] ∧ i64 x.n ∧ i64 x.lo ∧ i64 x.hi := by
  obtain ⟨cs, rfl, h2⟩ := okWide_struct Try.underlying48 hval
  rw [Try.cells48] at h2
  obtain ⟨c0, c1, c2, c3, c4, c5, rfl⟩ := six_of h2
  obtain ⟨fuel, hf⟩ := h
  obtain ⟨x, h0, h1, h2, h3, h4, h5, i1, i2, i3⟩ := val_cells hf
  exact ⟨x, by rw [h0, h1, h2, h3, h4, h5], i1, i2, i3⟩
/-- a row of Values that came in, opened -/
theorem vals_cells {H : Type} {enc : TypeId × Value → H} {W : World} {base : Nat} {fuel : Nat} {cc : Value} {d : DataW H × List MemPlace}
    (hf : DataW.trod enc Try.prog W base (fun _ => true) true fuel 22 [cc] = some d) : ∃ a cap, ∃ ts : List R, cc = .slice a (List.length ts) cap ∧ RV W a ts ∧ (∀ (m : Nat) (x : R), ts[m]? = some x → i64 x.n ∧ i64 x.lo ∧ i64 x.hi) ∧ ts.length ≤ cap ∧ (a = none → cap = 0) := by
  rcases open_slice Try.underlying22 hf with ⟨hcs, _⟩ | ⟨x, l, c, m, n, D, Pl, hcs, _, hl, _, hmm, hx, hall⟩
  · simp at hcs
    subst hcs
    exact ⟨none, 0, [], rfl, RV.nil _ _, fun m t h => by simp at h, Nat.le_refl _, fun _ => rfl⟩
  · simp at hcs
    subst hcs
    simp only [if_true] at hmm
    subst hmm
    have each : ∀ i, i < l → ∃ t : R, (i64 t.n ∧ i64 t.lo ∧ i64 t.hi) ∧ W.cell? (x.add (i * 6)) = some (.int .i64 t.s) ∧ W.cell? (x.add (i * 6 + 1)) = some (.bool t.k) ∧ W.cell? (x.add (i * 6 + 2)) = some (.int .i64 t.n) ∧ W.cell? (x.add (i * 6 + 3)) = some (.int .i64 t.lo) ∧ W.cell? (x.add (i * 6 + 4)) = some (.int .i64 t.hi) ∧ W.cell? (x.add (i * 6 + 5)) = some (.int .i64 t.p) := by
      intro i hi
      obtain ⟨cs', h1, h2⟩ := hall i (by omega)
      rw [Try.cells48] at h1
      obtain ⟨_, hlen, hcell⟩ := World.cells?_some h1
      have hc2 : ∃ v0 v1 v2 v3 v4 v5, cs' = [v0, v1, v2, v3, v4, v5] := by
        match cs', hlen with
        | [v0, v1, v2, v3, v4, v5], _ => exact ⟨v0, v1, v2, v3, v4, v5, rfl⟩
      obtain ⟨v0, v1, v2, v3, v4, v5, rfl⟩ := hc2
      obtain ⟨t, e0, e1, e2, e3, e4, e5, i1, i2, i3⟩ := val_cells h2
      have d0 := hcell 0 (by omega)
      have d1 := hcell 1 (by omega)
      have d2 := hcell 2 (by omega)
      have d3 := hcell 3 (by omega)
      have d4 := hcell 4 (by omega)
      have d5 := hcell 5 (by omega)
      rw [Go.Deep.add_add] at d0 d1 d2 d3 d4 d5
      refine ⟨t, ⟨i1, i2, i3⟩, ?_, ?_, ?_, ?_, ?_, ?_⟩
      · rw [e0] at d0; simpa using d0
      · rw [e1] at d1; simpa using d1
      · rw [e2] at d2; simpa using d2
      · rw [e3] at d3; simpa using d3
      · rw [e4] at d4; simpa using d4
      · rw [e5] at d5; simpa using d5
    haveI : Inhabited R := ⟨⟨0, false, 0, 0, 0, 0⟩⟩
    obtain ⟨T, hT⟩ := choose_lt each
    obtain ⟨b, o, s⟩ := x
    by_cases hl0 : l = 0
    · subst hl0
      exact ⟨_, _, [], rfl, RV.nil _ _, fun m t h => by simp at h, Nat.zero_le _, fun e => by cases e⟩
    have z0 := (hT 0 (by omega)).2.1
    have hsn : s = none := by simpa [Addr.add] using World.cell?_spot z0
    subst hsn
    refine ⟨some ⟨b, o, none⟩, _, (List.range l).map T, by rw [List.length_map, List.length_range], ?_, ?_, by simpa using hl, fun e => by cases e⟩
    · intro i t hi
      simp only [List.getElem?_map, Option.map_eq_some_iff] at hi
      obtain ⟨n', hn', rfl⟩ := hi
      obtain ⟨hlt, hn''⟩ := List.getElem?_eq_some_iff.1 hn'
      simp at hlt hn''
      subst hn''
      obtain ⟨j0, d0, d1, d2, d3, d4, d5⟩ := hT i hlt
      rw [addr_none] at d0 d1 d2 d3 d4 d5
      refine ⟨b, o, rfl, d0, ?_, ?_, ?_, ?_, ?_⟩
      · rw [← Nat.add_assoc] at d1; exact d1
      · rw [← Nat.add_assoc] at d2; exact d2
      · rw [← Nat.add_assoc] at d3; exact d3
      · rw [← Nat.add_assoc] at d4; exact d4
      · rw [← Nat.add_assoc] at d5; exact d5
    · intro i t hi
      simp only [List.getElem?_map, Option.map_eq_some_iff] at hi
      obtain ⟨n', hn', rfl⟩ := hi
      obtain ⟨hlt, hn''⟩ := List.getElem?_eq_some_iff.1 hn'
      simp at hlt hn''
      subst hn''
      exact (hT i hlt).1
/-- rows of numbers that came in, opened -/
theorem rows_cells {H : Type} {enc : TypeId × Value → H} {W : World} {base : Nat} {fuel : Nat} {cc : Value} {d : DataW H × List MemPlace}
    (hf : DataW.trod enc Try.prog W base (fun _ => true) true fuel 23 [cc] = some d) : ∃ b dd, ∃ ss : List (List Int), cc = .slice b (List.length ss) dd ∧ RR W b ss ∧ ss.length ≤ dd ∧ (b = none → dd = 0) := by
  rcases open_int_rows Try.underlying23 Try.underlying38 Try.underlying3 Try.cells38 Try.cells3 hf with ⟨hcs, _⟩ | ⟨x, len, cap, A, L, C, Z, hcs, _, hl, _, _, hall⟩
  · simp at hcs
    subst hcs
    exact ⟨none, 0, [], rfl, RR.nil _ _, Nat.le_refl _, fun _ => rfl⟩
  · simp at hcs
    subst hcs
    obtain ⟨b, o, s⟩ := x
    by_cases hl0 : cap = 0
    · have : len = 0 := by omega
      subst this
      exact ⟨_, _, [], rfl, RR.nil _ _, Nat.zero_le _, fun e => by cases e⟩
    have z0 := (hall 0 (by omega)).1
    have hsn : s = none := by simpa [Addr.add] using World.cell?_spot z0
    subst hsn
    refine ⟨some ⟨b, o, none⟩, cap, (List.range len).map (fun r => (Z r).take (L r)), by rw [List.length_map, List.length_range], ?_, by simpa using hl, fun e => by cases e⟩
    intro i l hi
    simp only [List.getElem?_map, Option.map_eq_some_iff] at hi
    obtain ⟨n', hn', rfl⟩ := hi
    obtain ⟨hlt, hn''⟩ := List.getElem?_eq_some_iff.1 hn'
    simp at hlt hn''
    subst hn''
    obtain ⟨h1, h2, h3, h4, h5, h6, h7⟩ := hall i (by omega)
    rw [addr_none] at h1
    have hlen : ((Z i).take (L i)).length = L i := by rw [List.length_take]; omega
    refine ⟨b, o, _, rfl, h1, A i, C i, by rw [hlen], fun m y hm => ?_, by rw [hlen]; exact h2, h6⟩
    have hmL : m < L i := by
      rcases Nat.lt_or_ge m (L i) with t | t
      · exact t
      · rw [List.getElem?_eq_none (by rw [hlen]; exact t)] at hm; cases hm
    have hmC : m < C i := by omega
    rw [List.getElem?_take, if_pos hmL] at hm
    cases hA : A i with
    | none => have := h6 hA; omega
    | some ad =>
      obtain ⟨b2, o2, s2⟩ := ad
      have h8 := (h7 _ hA).2
      have z1 := h8 0 (by omega)
      have hs2 : s2 = none := by simpa [Addr.add] using World.cell?_spot z1
      subst hs2
      have h9 := h8 m hmC
      rw [addr_none] at h9
      refine ⟨b2, o2, rfl, ?_⟩
      rw [h9, List.getD_eq_getElem?_getD, hm]; rfl
set_option maxRecDepth 100000 in
/-- a State that came in, opened -/
theorem open_state {H : Type} {enc : TypeId × Value → H} {W : World} {r : Reach} {b0 base : Nat} {v : Value} {d : DataW H} {p : List MemPlace}
    (hval : Value.okWide Try.prog W r b0 25 v) (h : DataW.Trod enc Try.prog W base (fun _ => true) true 25 v d p) : ∃ rr a c b dd, ∃ (vs : List R) (ss : List (List Int)), v = .agg #[.bool rr, .slice a vs.length c, .slice b ss.length dd] ∧ RV W a vs ∧ RR W b ss ∧ (∀ (m : Nat) (x : R), vs[m]? = some x → i64 x.n ∧ i64 x.lo ∧ i64 x.hi) ∧ vs.length ≤ c ∧ ss.length ≤ dd ∧ (a = none → c = 0) ∧ (b = none → dd = 0) := by
  obtain ⟨cs, rfl, h2⟩ := okWide_struct Try.underlying25 hval
  rw [Try.cells25] at h2
  obtain ⟨c0, c1, c2, rfl⟩ : ∃ c0 c1 c2, cs = #[c0, c1, c2] := by
    obtain ⟨l⟩ := cs
    match l, h2 with
    | [c0, c1, c2], _ => exact ⟨c0, c1, c2, rfl⟩
  obtain ⟨fuel, hf⟩ := h
  have hf' : DataW.trod enc Try.prog W base (fun _ => true) true fuel 25 [c0, c1, c2] = some (d, p) := hf
  obtain ⟨xs, m, _, _, _, hl, hx⟩ := DataW.trod_struct Try.underlying25 hf'
  have g0 : DataW.trod enc Try.prog W base (fun _ => true) true m 4 (([c0, c1, c2].drop 0).take (Try.prog.cellsOf 4)) = xs[0]? := hx 0 _ rfl
  have g1 : DataW.trod enc Try.prog W base (fun _ => true) true m 22 (([c0, c1, c2].drop 1).take (Try.prog.cellsOf 22)) = xs[1]? := hx 1 _ rfl
  have g2 : DataW.trod enc Try.prog W base (fun _ => true) true m 23 (([c0, c1, c2].drop 2).take (Try.prog.cellsOf 23)) = xs[2]? := hx 2 _ rfl
  rw [Try.cells4] at g0
  rw [Try.cells22] at g1
  rw [Try.cells23] at g2
  simp only [List.drop, List.take] at g0 g1 g2
  have hl2 : xs.length = 3 := hl
  cases e0 : xs[0]? with
  | none => have := List.getElem?_eq_none_iff.1 e0; omega
  | some y0 =>
    cases e1 : xs[1]? with
    | none => have := List.getElem?_eq_none_iff.1 e1; omega
    | some y1 =>
      cases e2 : xs[2]? with
      | none => have := List.getElem?_eq_none_iff.1 e2; omega
      | some y2 =>
        rw [e0] at g0
        rw [e1] at g1
        rw [e2] at g2
        obtain ⟨rr, ha, _⟩ := DataW.trod_bool Try.underlying4 g0
        obtain ⟨a, c, vs, rfl, k1, k2, k3, k4⟩ := vals_cells g1
        obtain ⟨b, dd, ss, rfl, k5, k6, k7⟩ := rows_cells g2
        simp at ha
        subst ha
        exact ⟨rr, a, c, b, dd, vs, ss, rfl, k1, k5, k2, k3, k6, k4, k7⟩
set_option maxRecDepth 100000 in
/-- how a function begins, as it came in, opened -/
theorem open_args {H : Type} {enc : TypeId × Value → H} {W : World} {r : Reach} {b0 base : Nat} {v : Value} {d : DataW H} {p : List MemPlace}
    (hval : Value.okWide Try.prog W r b0 42 v) (h : DataW.Trod enc Try.prog W base (fun _ => true) true 42 v d p) : ∃ n first a c, ∃ (vs : List R), v = .agg #[.int .i64 n, .slice a vs.length c, .int .i64 first] ∧ RV W a vs ∧ (∀ (m : Nat) (x : R), vs[m]? = some x → i64 x.n ∧ i64 x.lo ∧ i64 x.hi) := by
  obtain ⟨cs, rfl, h2⟩ := okWide_struct Try.underlying42 hval
  rw [Try.cells42] at h2
  obtain ⟨c0, c1, c2, rfl⟩ : ∃ c0 c1 c2, cs = #[c0, c1, c2] := by
    obtain ⟨l⟩ := cs
    match l, h2 with
    | [c0, c1, c2], _ => exact ⟨c0, c1, c2, rfl⟩
  obtain ⟨fuel, hf⟩ := h
  have hf' : DataW.trod enc Try.prog W base (fun _ => true) true fuel 42 [c0, c1, c2] = some (d, p) := hf
  obtain ⟨xs, m, _, _, _, hl, hx⟩ := DataW.trod_struct Try.underlying42 hf'
  have g0 : DataW.trod enc Try.prog W base (fun _ => true) true m 3 (([c0, c1, c2].drop 0).take (Try.prog.cellsOf 3)) = xs[0]? := hx 0 _ rfl
  have g1 : DataW.trod enc Try.prog W base (fun _ => true) true m 22 (([c0, c1, c2].drop 1).take (Try.prog.cellsOf 22)) = xs[1]? := hx 1 _ rfl
  have g2 : DataW.trod enc Try.prog W base (fun _ => true) true m 3 (([c0, c1, c2].drop 2).take (Try.prog.cellsOf 3)) = xs[2]? := hx 2 _ rfl
  rw [Try.cells3] at g0 g2
  rw [Try.cells22] at g1
  simp only [List.drop, List.take] at g0 g1 g2
  have hl2 : xs.length = 3 := hl
  cases e0 : xs[0]? with
  | none => have := List.getElem?_eq_none_iff.1 e0; omega
  | some y0 =>
    cases e1 : xs[1]? with
    | none => have := List.getElem?_eq_none_iff.1 e1; omega
    | some y1 =>
      cases e2 : xs[2]? with
      | none => have := List.getElem?_eq_none_iff.1 e2; omega
      | some y2 =>
        rw [e0] at g0
        rw [e1] at g1
        rw [e2] at g2
        obtain ⟨n, ha, _, _⟩ := DataW.trod_int Try.underlying3 g0
        obtain ⟨a, c, vs, rfl, k1, k2, k3, k4⟩ := vals_cells g1
        obtain ⟨first, hb, _, _⟩ := DataW.trod_int Try.underlying3 g2
        simp at ha hb
        subst ha hb
        exact ⟨n, first, a, c, vs, rfl, k1, k2⟩
end Go.Proofs.Ytmhicllhjiglkaa
namespace Go.Proofs.Ytmhicllhjiglkaa
open Go.RowKit
theorem St.base {W w1 w2 : World} {v : Value} {ps : List Int} (h : St w1 w2 v ps) (hb : Below W.heap.size W w1) : St W w2 v ps := ⟨ownsRow_mono h.own hb.size, hb.trans (h.bel.mono hb.size)⟩
theorem St.more {W w1 : World} {v : Value} {ps : List Int} (h : St W w1 v ps) (o : Obj) : St W (w1.alloc o) v ps := ⟨World.ownsRow.alloc h.own _, h.bel.alloc h.bel.size _⟩
theorem ri_grown {w w' : World} {nb : Nat} {l : List Int} {row : Option Nat} (h : Ri w (some ⟨nb, 0, none⟩) l) (hg : w.grownBy w' row) (hne : some nb ≠ row) : Ri w' (some ⟨nb, 0, none⟩) l := fun i x hx => by
  obtain ⟨b, o, e, hc⟩ := h i x hx
  obtain ⟨rfl, rfl⟩ : nb = b ∧ 0 = o := by simpa using e
  exact ⟨nb, 0, rfl, hg.cell hc hne⟩
theorem ri_lit1 (w : World) (n : Int) : Ri (w.alloc (.cells #[.int .i64 n] 3)) (some ⟨w.heap.size, 0, none⟩) [n] := fun i x hx => by
  cases i with
  | zero => simp at hx; subst hx; exact ⟨w.heap.size, 0, rfl, by simp⟩
  | succ i => simp at hx
/-- numbers more, and what else stays -/
theorem wp_appY {o : Oper} {a : Act} {K : Act → World → Prop} {Q : Exit → Act → World → Prop} (w0 w1 : World) (s x : Operand)
    (ho : o.op = .call { callee := .builtin .append, args := #[s, x], argTypes := #[38, 38] })
    (v : Value) (ps : List Int) (hS : St w0 w1 v ps) (hs : a.eval s = v) (az : Option Addr) (c : Nat) (zs : List Int) (hx : a.eval x = .slice az zs.length c) (hz : Ri w1 az zs) (hn : az = none → c = 0 ∧ zs = []) (hl : ps.length + zs.length ≤ 1000000)
    (h : ∀ a' c' w', St w0 w' (.slice a' (ps.length + zs.length) c') (ps ++ zs) → w1.grownBy w' v.ownBlock → K (a.put o.dst (.slice a' (ps.length + zs.length) c')) w') : o.wp Try.prog a w1 K Q := by
  cases az with
  | none =>
    obtain ⟨rfl, rfl⟩ := hn rfl
    obtain ⟨a', c', rfl⟩ := hS.slice
    refine wp_app0 w0 w1 s x ho _ ps hS hs hx ?_
    have := h a' c' w1 (by simpa using hS) ⟨rfl, rfl, rfl, Nat.le_refl _, fun _ _ _ => rfl⟩
    simpa using this
  | some ad =>
    obtain ⟨i0, hi, hz0, hz1, hz2⟩ := info_parts info3p
    refine wp_append_own _ s x 38 ho w0.heap.size 3 i0 (.int .i64 0) 1 8 Try.underlying38 hi hz0 hz1 hz2 rfl (by decide) v ps.length (I64 ps) hs hS.own ad zs.length c (I64 zs) hx (by simp [I64]) ?_ (i64_one zs) ?_ ?_ ?_ ?_
    · intro j u hj
      unfold I64 at hj
      rw [List.getElem?_map, Option.map_eq_some_iff] at hj
      obtain ⟨n, hn, rfl⟩ := hj
      obtain ⟨b, o', e, hc⟩ := hz j n hn
      obtain rfl := Option.some.inj e
      rw [addr_none]; exact hc
    · unfold maxLen; omega
    · omega
    · exact hS.bel.size
    · intro v' w' hown hgrow _
      have hT : St w0 w' v' (ps ++ zs) := by
        refine ⟨?_, hS.bel.grown hgrow hS.bel.size (fun k hk => ((hS.own.lt k hk).1))⟩
        have e : I64 (ps ++ zs) = I64 ps ++ I64 zs := by simp [I64]
        rw [e]
        simpa using hown
      obtain ⟨a', c', rfl⟩ := hT.slice
      simp only [List.length_append] at hT ⊢
      exact h a' c' w' hT hgrow
end Go.Proofs.Ytmhicllhjiglkaa
namespace Go.Proofs.Ytmhicllhjiglkaa
open Go.RowKit
/-- numbers that rise -/
def UpP (l : List Int) : Prop := l.Pairwise (· < ·)
theorem UpP.up {l : List Int} (h : UpP l) : Up l := fun i j hij hj => by
  have hi : i < l.length := by omega
  have := List.pairwise_iff_getElem.1 h i j hi hj hij
  simpa [hi, hj] using this
theorem UpP.ext {a b : List Int} (ha : UpP a) (hb : UpP b) (h : ∀ y, y ∈ a ↔ y ∈ b) : a = b := by
  induction a generalizing b with
  | nil =>
    cases b with
    | nil => rfl
    | cons y t => exact absurd ((h y).2 (by simp)) (by simp)
  | cons x s ih =>
    cases b with
    | nil => exact absurd ((h x).1 (by simp)) (by simp)
    | cons y t =>
      have h1 := List.pairwise_cons.1 ha
      have h2 := List.pairwise_cons.1 hb
      have e : x = y := by
        have m1 : x ∈ y :: t := (h x).1 (by simp)
        have m2 : y ∈ x :: s := (h y).2 (by simp)
        rcases List.mem_cons.1 m1 with e | m1
        · exact e
        · rcases List.mem_cons.1 m2 with e | m2
          · exact e.symm
          · have := h1.1 y m2
            have := h2.1 x m1
            omega
      subst e
      rw [ih h1.2 h2.2 (fun z => ⟨fun hz => by
        rcases List.mem_cons.1 ((h z).1 (by simp [hz])) with e | m
        · have := h1.1 z hz; omega
        · exact m, fun hz => by
        rcases List.mem_cons.1 ((h z).2 (by simp [hz])) with e | m
        · have := h2.1 z hz; omega
        · exact m⟩)]
theorem insert_up {out : List Int} {x : Int} {k : Nat} (h : UpP out) (hk : k ≤ out.length) (h1 : ∀ j, j < k → out.getD j 0 < x) (h2 : k < out.length → x < out.getD k 0) : UpP (out.take k ++ [x] ++ out.drop k) := by
  have p1 : (out.take k ++ out.drop k).Pairwise (· < ·) := by rw [List.take_append_drop]; exact h
  rw [List.pairwise_append] at p1
  have a1 : ∀ y ∈ out.take k, y < x := fun y hy => by
    obtain ⟨j, hj, rfl⟩ := List.getElem_of_mem hy
    have hj2 : j < k := by rw [List.length_take] at hj; omega
    have := h1 j hj2
    rw [List.getElem_take]
    simpa [show j < out.length by omega] using this
  have a2 : ∀ y ∈ out.drop k, x < y := fun y hy => by
    rcases Nat.lt_or_ge k out.length with t | t
    · have e : out.drop k = out.getD k 0 :: out.drop (k + 1) := by rw [List.drop_eq_getElem_cons t]; simp [t]
      rw [e] at hy p1
      rcases List.mem_cons.1 hy with rfl | hy
      · exact h2 t
      · have := (List.pairwise_cons.1 p1.2.1).1 y hy
        have := h2 t
        omega
    · rw [List.drop_of_length_le t] at hy; cases hy
  unfold UpP
  rw [List.pairwise_append, List.pairwise_append]
  refine ⟨⟨p1.1, List.pairwise_singleton _ _, fun y hy z hz => ?_⟩, p1.2.1, fun y hy z hz => ?_⟩
  · simp at hz; subst hz; exact a1 y hy
  · rcases List.mem_append.1 hy with hy | hy
    · exact p1.2.2 y hy z hz
    · simp at hy; subst hy; exact a2 z hz
theorem insert_mem (out : List Int) (x : Int) (k : Nat) (y : Int) : y ∈ out.take k ++ [x] ++ out.drop k ↔ y ∈ out ∨ y = x := by
  have : y ∈ out ↔ y ∈ out.take k ∨ y ∈ out.drop k := by rw [← List.mem_append, List.take_append_drop]
  rw [List.mem_append, List.mem_append, this]
  simp only [List.mem_singleton]
  constructor
  · rintro ((h | h) | h)
    · exact .inl (.inl h)
    · exact .inr h
    · exact .inl (.inr h)
  · rintro ((h | h) | h)
    · exact .inl (.inl h)
    · exact .inr h
    · exact .inl (.inr h)
theorem ri_takeN {w : World} {a : Option Addr} {zs : List Int} (h : Ri w a zs) (n : Nat) : Ri w a (zs.take n) := fun i x hx => h i x (by
  rw [List.getElem?_take] at hx
  split at hx
  · exact hx
  · exact absurd hx (by simp))
theorem ri_dropN {w : World} {b o : Nat} {zs : List Int} (h : Ri w (some ⟨b, o, none⟩) zs) (n : Nat) : Ri w (some ⟨b, o + n, none⟩) (zs.drop n) := fun i x hx => by
  rw [List.getElem?_drop] at hx
  obtain ⟨b2, o2, e, hc⟩ := h (n + i) x hx
  obtain ⟨rfl, rfl⟩ : b = b2 ∧ o = o2 := by simpa using e
  exact ⟨b, o + n, rfl, by rw [Nat.add_assoc]; exact hc⟩
end Go.Proofs.Ytmhicllhjiglkaa
