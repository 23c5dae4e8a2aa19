import Derived.Test.YtmhicllhjiglkaaG19
import Derived.Test.YtmhicllhjiglkaaG04
import Derived.Test.YtmhicllhjiglkaaG11
namespace Go.Proofs.Ytmhicllhjiglkaa
open Go.RowKit
/-- it is a State's box -/
def Tg (w : World) (q : Nat) : Prop := ∃ c f, w.heap[q]? = some (.cells c 25 f)
theorem Tg.of {w w' : World} {q : Nat} (h : Tg w q) (e : w'.heap[q]? = w.heap[q]?) : Tg w' q := by
  obtain ⟨c, f, h⟩ := h
  exact ⟨c, f, e.trans h⟩
theorem Tg.set {w : World} {q : Nat} (h : Tg w q) (o : Nat) (v : Value) : Tg (w.setCell ⟨q, o, none⟩ v) q := by
  obtain ⟨c, f, h⟩ := h
  exact ⟨c.setIfInBounds o v, f, by simp [World.setCell, Array.getElem?_modify, h]⟩
theorem Tg.new (w : World) (vs : Array Value) : Tg (w.alloc (.cells vs 25)) w.heap.size := ⟨vs, _, heap_alloc_new w _⟩
theorem tg_ne {w : World} {B e s n q : Nat} {v : Value} {x : List Value} (h : w.ownsRow B e s v n x) (ht : Tg w q) (he : e ≠ 25) : some q ≠ v.ownBlock := by
  intro hk
  obtain ⟨c, f, ht⟩ := ht
  rcases h.2 with ⟨rfl, _⟩ | ⟨g, cap, cur, rfl, _, hg, _⟩
  · cases hk
  · obtain rfl : q = g := by simpa [Value.ownBlock] using hk
    rw [hg] at ht
    exact he (Obj.cells.inj (Option.some.inj ht)).2.1
/-- a State in a box, its rows the call's own -/
structure Lq (w : World) (B q : Nat) (s : S) (va sa : Value) (es : List Value) : Prop where
  bx : Bs w q s.r va sa
  fz : Fs w q
  tg : Tg w q
  ov : OwV w B 48 va s.vs
  os : OwR w B sa es
  inn : Inn w B es s.ss
  qB : B ≤ q
theorem Lq.Bl {w : World} {B q : Nat} {s : S} {va sa : Value} {es : List Value} (h : Lq w B q s va sa es) : B ≤ w.heap.size := Nat.le_trans h.qB (Nat.le_of_lt h.bx.lt)
theorem Lw.of {w w' : World} {B : Nat} {s : S} {va sa : Value} {es : List Value} (h : Lw w B s va sa es) (hb : Below w.heap.size w w') : Lw w' B s va sa es :=
  ⟨h.ov.of (fun k hk => hb.block k (h.ov.lt k hk).2), h.os.of (fun k hk => hb.block k (h.os.lt k hk).2), ⟨h.inn.1, fun m l hm => by
    obtain ⟨e, h1, h2⟩ := h.inn.2 m l hm
    exact ⟨e, h1, h2.of (fun k hk => hb.block k (h2.lt k hk).2)⟩⟩⟩
theorem Lq.of {w w' : World} {B q : Nat} {s : S} {va sa : Value} {es : List Value} (h : Lq w B q s va sa es) (hb : Below w.heap.size w w') : Lq w' B q s va sa es :=
  have t := (Lw.mk h.ov h.os h.inn).of hb
  ⟨h.bx.keep hb, h.fz.of (hb.block q h.bx.lt), h.tg.of (hb.block q h.bx.lt), t.ov, t.os, t.inn, h.qB⟩
theorem Lq.appV {w w' : World} {B q : Nat} {s : S} {va sa va' : Value} {es : List Value} {y : R} (h : Lq w B q s va sa es) (ho : OwV w' B 48 va' (s.vs ++ [y])) (hg : w.grownBy w' va.ownBlock) : Lq (w'.setCell ⟨q, 1, none⟩ va') B q ⟨s.r, s.vs ++ [y], s.ss⟩ va' sa es := by
  have q1 : w'.heap[q]? = w.heap[q]? := hg.block q h.bx.lt (tg_ne h.ov h.tg (by decide))
  have t1 := h.tg.of q1
  have far : ∀ k, k ≠ q → (w'.setCell ⟨q, 1, none⟩ va').heap[k]? = w'.heap[k]? := fun k hk => set_block w' q 1 va' k hk
  refine ⟨(h.bx.of q1).put1 va', (h.fz.of q1).put _ _, t1.set _ _, ho.of (fun k hk => far k (fun e => tg_ne ho t1 (by decide) (e ▸ hk.symm))), h.os.of (fun k hk => ?_), ⟨h.inn.1, fun m l hm => ?_⟩, h.qB⟩
  · exact (far k (fun e => tg_ne h.os h.tg (by decide) (e ▸ hk.symm))).trans (hg.block k (h.os.lt k hk).2 (own_ne h.os h.ov (by decide) k hk))
  · obtain ⟨e, h1, h2⟩ := h.inn.2 m l hm
    exact ⟨e, h1, h2.of (fun k hk => (far k (fun e => tg_ne h2 h.tg (by decide) (e ▸ hk.symm))).trans (hg.block k (h2.lt k hk).2 (own_ne h2 h.ov (by decide) k hk)))⟩
theorem Lq.appR {w w' : World} {B q : Nat} {s : S} {va sa sa' e : Value} {es : List Value} {l : List Int} (h : Lq w B q s va sa es) (he : OwI w B e l) (ho : OwR w' B sa' (es ++ [e])) (hg : w.grownBy w' sa.ownBlock) : Lq (w'.setCell ⟨q, 2, none⟩ sa') B q ⟨s.r, s.vs, s.ss ++ [l]⟩ va sa' (es ++ [e]) := by
  have q1 : w'.heap[q]? = w.heap[q]? := hg.block q h.bx.lt (tg_ne h.os h.tg (by decide))
  have t1 := h.tg.of q1
  have far : ∀ k, k ≠ q → (w'.setCell ⟨q, 2, none⟩ sa').heap[k]? = w'.heap[k]? := fun k hk => set_block w' q 2 sa' k hk
  have inn2 : Inn w B (es ++ [e]) (s.ss ++ [l]) := h.inn.app he
  refine ⟨(h.bx.of q1).put2 sa', (h.fz.of q1).put _ _, t1.set _ _, h.ov.of (fun k hk => ?_), ho.of (fun k hk => far k (fun e => tg_ne ho t1 (by decide) (e ▸ hk.symm))), ⟨inn2.1, fun m l2 hm => ?_⟩, h.qB⟩
  · exact (far k (fun e => tg_ne h.ov h.tg (by decide) (e ▸ hk.symm))).trans (hg.block k (h.ov.lt k hk).2 (own_ne h.ov h.os (by decide) k hk))
  · obtain ⟨e2, h1, h2⟩ := inn2.2 m l2 hm
    exact ⟨e2, h1, h2.of (fun k hk => (far k (fun e => tg_ne h2 h.tg (by decide) (e ▸ hk.symm))).trans (hg.block k (h2.lt k hk).2 (own_ne h2 h.os (by decide) k hk)))⟩
theorem Lq.boxV {w w' : World} {B q : Nat} {s : S} {va sa : Value} {es : List Value} (h : Lq w B q s va sa es) (hg : w.grownBy w' va.ownBlock) : Bs w' q s.r va sa ∧ Fs w' q :=
  have q1 : w'.heap[q]? = w.heap[q]? := hg.block q h.bx.lt (tg_ne h.ov h.tg (by decide))
  ⟨h.bx.of q1, h.fz.of q1⟩
theorem Lq.boxR {w w' : World} {B q : Nat} {s : S} {va sa : Value} {es : List Value} (h : Lq w B q s va sa es) (hg : w.grownBy w' sa.ownBlock) : Bs w' q s.r va sa ∧ Fs w' q :=
  have q1 : w'.heap[q]? = w.heap[q]? := hg.block q h.bx.lt (tg_ne h.os h.tg (by decide))
  ⟨h.bx.of q1, h.fz.of q1⟩
theorem Lq.belV {W w w' : World} {B q : Nat} {s : S} {va sa : Value} {es : List Value} (h : Lq w B q s va sa es) (hb : Below B W w) (hg : w.grownBy w' va.ownBlock) : Below B W w' :=
  hb.grown hg h.Bl (fun k hk => (h.ov.lt k hk).1)
theorem Lq.belR {W w w' : World} {B q : Nat} {s : S} {va sa : Value} {es : List Value} (h : Lq w B q s va sa es) (hb : Below B W w) (hg : w.grownBy w' sa.ownBlock) : Below B W w' :=
  hb.grown hg h.Bl (fun k hk => (h.os.lt k hk).1)
theorem Lq.rs {w : World} {B q : Nat} {s : S} {va sa : Value} {es : List Value} (h : Lq w B q s va sa es) : Rs w (.agg #[.bool s.r, va, sa]) s := by
  obtain ⟨a, c, rfl, h1, h2⟩ := h.ov.slice
  obtain ⟨b, d, e, h3, h4⟩ := h.os.slice
  have ho := h.os
  have hn := h.inn
  rw [hn.1] at e h3
  subst e
  exact ⟨a, c, b, d, rfl, h.ov.rv, Inn.rr ho hn, h1, h3, h2, h4⟩
end Go.Proofs.Ytmhicllhjiglkaa
namespace Go.Proofs.Ytmhicllhjiglkaa
open Go.ChangeShapes Go.WideShapes Go.ChangeAt Go.RowKit Go.Deep
/-- a row of States that came in -/
def RSt (W : World) (a : Option Addr) (ls : List S) : Prop := ∀ m s, ls[m]? = some s → ∃ b o va sa, a = some ⟨b, o, none⟩ ∧ W.cell? ⟨b, o + m * 3, none⟩ = some (.bool s.r) ∧ W.cell? ⟨b, o + m * 3 + 1, none⟩ = some va ∧ W.cell? ⟨b, o + m * 3 + 2, none⟩ = some sa ∧ Rs W (.agg #[.bool s.r, va, sa]) s ∧ (∀ (m : Nat) (x : R), s.vs[m]? = some x → i64 x.n ∧ i64 x.lo ∧ i64 x.hi)
set_option maxRecDepth 100000 in
theorem state_cells {H : Type} {enc : TypeId × Value → H} {W : World} {base : Nat} {fuel : Nat} {c0 c1 c2 : Value} {d : DataW H × List MemPlace}
    (hf' : DataW.trod enc Try.prog W base (fun _ => true) true fuel 25 [c0, c1, c2] = some d) : ∃ s : S, c0 = .bool s.r ∧ Rs W (.agg #[.bool s.r, c1, c2]) s ∧ (∀ (m : Nat) (x : R), s.vs[m]? = some x → i64 x.n ∧ i64 x.lo ∧ i64 x.hi) := by
  obtain ⟨d, p⟩ := d
  obtain ⟨xs, m, _, _, _, hl, hx⟩ := DataW.trod_struct Try.underlying25 hf'
  have g0 : DataW.trod enc Try.prog W base (fun _ => true) true m 4 (([c0, c1, c2].drop 0).take (Try.prog.cellsOf 4)) = xs[0]? := hx 0 _ rfl
  have g1 : DataW.trod enc Try.prog W base (fun _ => true) true m 22 (([c0, c1, c2].drop 1).take (Try.prog.cellsOf 22)) = xs[1]? := hx 1 _ rfl
  have g2 : DataW.trod enc Try.prog W base (fun _ => true) true m 23 (([c0, c1, c2].drop 2).take (Try.prog.cellsOf 23)) = xs[2]? := hx 2 _ rfl
  rw [Try.cells4] at g0
  rw [Try.cells22] at g1
  rw [Try.cells23] at g2
  simp only [List.drop, List.take] at g0 g1 g2
  have hl2 : xs.length = 3 := hl
  cases e0 : xs[0]? with
  | none => have := List.getElem?_eq_none_iff.1 e0; omega
  | some y0 =>
    cases e1 : xs[1]? with
    | none => have := List.getElem?_eq_none_iff.1 e1; omega
    | some y1 =>
      cases e2 : xs[2]? with
      | none => have := List.getElem?_eq_none_iff.1 e2; omega
      | some y2 =>
        rw [e0] at g0
        rw [e1] at g1
        rw [e2] at g2
        obtain ⟨rr, ha, _⟩ := DataW.trod_bool Try.underlying4 g0
        obtain ⟨a, c, vs, rfl, k1, k2, k3, k4⟩ := vals_cells g1
        obtain ⟨b, dd, ss, rfl, k5, k6, k7⟩ := rows_cells g2
        simp at ha
        subst ha
        exact ⟨⟨rr, vs, ss⟩, rfl, ⟨a, c, b, dd, rfl, k1, k5, k3, k6, k4, k7⟩, k2⟩
set_option maxRecDepth 100000 in
theorem open_states {H : Type} {enc : TypeId × Value → H} {W : World} {r : Reach} {b0 base : Nat} {v : Value} {d : DataW H} {p : List MemPlace}
    (hval : Value.okWide Try.prog W r b0 75 v) (h : DataW.Trod enc Try.prog W base (fun _ => true) true 75 v d p) : ∃ a cap, ∃ ts : List S, v = .slice a (List.length ts) cap ∧ RSt W a ts := by
  obtain ⟨fuel, hf⟩ := h
  obtain ⟨a, len, cap, rfl⟩ := okWide_slice Try.underlying75 hval
  rcases open_slice Try.underlying75 hf with ⟨hcs, _⟩ | ⟨x, l, c, m, n, D, Pl, hcs, _, hl, _, hmm, hx, hall⟩
  · simp [Value.cells] at hcs
    obtain ⟨rfl, rfl, rfl⟩ := hcs
    exact ⟨none, 0, [], rfl, fun m t h => by simp at h⟩
  · simp [Value.cells] at hcs
    obtain ⟨rfl, rfl, rfl⟩ := hcs
    simp only [if_true] at hmm
    subst hmm
    have each : ∀ i, i < len → ∃ t : S, ∃ va sa, (∀ (m : Nat) (x : R), t.vs[m]? = some x → i64 x.n ∧ i64 x.lo ∧ i64 x.hi) ∧ W.cell? (x.add (i * 3)) = some (.bool t.r) ∧ W.cell? (x.add (i * 3 + 1)) = some va ∧ W.cell? (x.add (i * 3 + 2)) = some sa ∧ Rs W (.agg #[.bool t.r, va, sa]) t := by
      intro i hi
      obtain ⟨cs', h1, h2⟩ := hall i (by omega)
      rw [Try.cells25] at h1
      obtain ⟨_, hlen, hcell⟩ := World.cells?_some h1
      have hc2 : ∃ v0 v1 v2, cs' = [v0, v1, v2] := by
        match cs', hlen with
        | [v0, v1, v2], _ => exact ⟨v0, v1, v2, rfl⟩
      obtain ⟨v0, v1, v2, rfl⟩ := hc2
      obtain ⟨t, rfl, e1, e2⟩ := state_cells h2
      have d0 := hcell 0 (by omega)
      have d1 := hcell 1 (by omega)
      have d2 := hcell 2 (by omega)
      rw [Go.Deep.add_add] at d0 d1 d2
      exact ⟨t, v1, v2, e2, by simpa using d0, by simpa using d1, by simpa using d2, e1⟩
    haveI : Inhabited S := ⟨⟨false, [], []⟩⟩
    obtain ⟨T, hT⟩ := choose_lt each
    obtain ⟨b, o, s⟩ := x
    by_cases hl0 : len = 0
    · subst hl0
      exact ⟨_, _, [], rfl, fun m t h => by simp at h⟩
    obtain ⟨_, _, _, z0, _⟩ := hT 0 (by omega)
    have hsn : s = none := by simpa [Addr.add] using World.cell?_spot z0
    subst hsn
    refine ⟨some ⟨b, o, none⟩, _, (List.range len).map T, by rw [List.length_map, List.length_range], ?_⟩
    intro i t hi
    simp only [List.getElem?_map, Option.map_eq_some_iff] at hi
    obtain ⟨n', hn', rfl⟩ := hi
    obtain ⟨hlt, hn''⟩ := List.getElem?_eq_some_iff.1 hn'
    simp at hlt hn''
    subst hn''
    obtain ⟨va, sa, j0, d0, d1, d2, j1⟩ := hT i hlt
    rw [addr_none] at d0 d1 d2
    refine ⟨b, o, va, sa, rfl, d0, ?_, ?_, j1, j0⟩
    · rw [← Nat.add_assoc] at d1; exact d1
    · rw [← Nat.add_assoc] at d2; exact d2
end Go.Proofs.Ytmhicllhjiglkaa
namespace Go.Proofs.Ytmhicllhjiglkaa
open Go.RowKit
/-- a slice of numbers that lies in none of these blocks -/
def Rlp (w : World) (L : List Nat) (e : Value) (l : List Int) : Prop := ∃ a c, e = .slice a l.length c ∧ (∀ (i : Nat) (y : Int), l[i]? = some y → ∃ b o, a = some ⟨b, o, none⟩ ∧ b ∉ L ∧ w.cell? ⟨b, o + i, none⟩ = some (.int .i64 y)) ∧ l.length ≤ c ∧ (a = none → c = 0)
/-- a State as a value, whose rows lie in none of these blocks -/
def Rp (w : World) (L : List Nat) (v : Value) (s : S) : Prop := ∃ a c b d, v = .agg #[.bool s.r, .slice a s.vs.length c, .slice b s.ss.length d] ∧
  (∀ (m : Nat) (x : R), s.vs[m]? = some x → ∃ b o, a = some ⟨b, o, none⟩ ∧ b ∉ L ∧ B6 w b (o + m * 6) x) ∧
  (∀ (m : Nat) (l : List Int), s.ss[m]? = some l → ∃ b' o e, b = some ⟨b', o, none⟩ ∧ b' ∉ L ∧ w.cell? ⟨b', o + m, none⟩ = some e ∧ Rlp w L e l) ∧
  s.vs.length ≤ c ∧ s.ss.length ≤ d ∧ (a = none → c = 0) ∧ (b = none → d = 0)
theorem Rp.rs {w : World} {L : List Nat} {v : Value} {s : S} (h : Rp w L v s) : Rs w v s := by
  obtain ⟨a, c, b, d, h1, h2, h3, h4⟩ := h
  refine ⟨a, c, b, d, h1, fun m x hx => ?_, fun m l hl => ?_, h4⟩
  · obtain ⟨b1, o1, e1, _, e2⟩ := h2 m x hx
    exact ⟨b1, o1, e1, e2⟩
  · obtain ⟨b1, o1, e, e1, _, e2, ai, ci, rfl, e3, e4⟩ := h3 m l hl
    refine ⟨b1, o1, _, e1, e2, ai, ci, rfl, fun i y hy => ?_, e4⟩
    obtain ⟨b2, o2, rfl, _, hc⟩ := e3 i y hy
    exact ⟨b2, o2, rfl, hc⟩
theorem Rn.rp {w : World} {N : Nat} {v : Value} {s : S} (h : Rn w N v s) {L : List Nat} (hL : ∀ k ∈ L, k < N) : Rp w L v s := by
  obtain ⟨a, c, b, d, h1, h2, h3, h4⟩ := h
  refine ⟨a, c, b, d, h1, fun m x hx => ?_, fun m l hl => ?_, h4⟩
  · obtain ⟨b1, o1, e1, e0, e2⟩ := h2 m x hx
    exact ⟨b1, o1, e1, fun t => by have := hL _ t; omega, e2⟩
  · obtain ⟨b1, o1, e, e1, e0, e2, ⟨ai, ci, rfl, e3, e5⟩, e4⟩ := h3 m l hl
    refine ⟨b1, o1, _, e1, fun t => by have := hL _ t; omega, e2, ai, ci, rfl, fun i y hy => ?_, e5⟩
    obtain ⟨b2, o2, rfl, hc⟩ := e3 i y hy
    exact ⟨b2, o2, rfl, fun t => by have := hL _ t; have := e4 b2 rfl; omega, hc⟩
/-- it stays where all blocks that stood stay, but these -/
theorem Rp.of {w w' : World} {L L' : List Nat} {v : Value} {s : S} (h : Rp w L v s) (hL : ∀ k ∈ L', k ∈ L ∨ w.heap.size ≤ k) (hb : ∀ k, k ∉ L → k < w.heap.size → w'.heap[k]? = w.heap[k]?) : Rp w' L' v s := by
  obtain ⟨a, c, b, d, h1, h2, h3, h4⟩ := h
  have nin : ∀ k, k ∉ L → k < w.heap.size → k ∉ L' := fun k h1 h2 h3 => by rcases hL k h3 with t | t; exact h1 t; omega
  refine ⟨a, c, b, d, h1, fun m x hx => ?_, fun m l hl => ?_, h4⟩
  · obtain ⟨b1, o1, e1, e0, e2⟩ := h2 m x hx
    exact ⟨b1, o1, e1, nin _ e0 e2.lt, e2.of (hb b1 e0 e2.lt)⟩
  · obtain ⟨b1, o1, e, e1, e0, e2, ai, ci, rfl, k1, k2⟩ := h3 m l hl
    have l1 := World.block_lt_of_cell? w _ e2
    refine ⟨b1, o1, _, e1, nin _ e0 l1, (World.cell?_of_block (a := ⟨b1, o1 + m, none⟩) (hb b1 e0 l1)).trans e2, ai, ci, rfl, fun i y hy => ?_, k2⟩
    obtain ⟨b2, o2, rfl, e5, hc⟩ := k1 i y hy
    have l2 := World.block_lt_of_cell? w _ hc
    exact ⟨b2, o2, rfl, nin _ e5 l2, (World.cell?_of_block (a := ⟨b2, o2 + i, none⟩) (hb b2 e5 l2)).trans hc⟩
theorem Bs.far3 {w : World} {q p : Nat} {r : Bool} {va sa : Value} (h : Bs w q r va sa) (hp : q ≠ p) (r1 : Bool) (va1 sa1 : Value) : Bs (st3 w p r1 va1 sa1) q r va sa := h.of (st3_block w p r1 va1 sa1 q hp)
end Go.Proofs.Ytmhicllhjiglkaa
