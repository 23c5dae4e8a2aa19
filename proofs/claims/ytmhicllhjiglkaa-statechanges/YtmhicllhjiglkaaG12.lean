import Derived.Test.YtmhicllhjiglkaaG11
import Derived.Deep.RegionHeld3
import Derived.Test.YtmhicllhjiglkaaG03
namespace Go.Proofs.Ytmhicllhjiglkaa
open Go.RowKit
/-- all that stands ahead of both stores -/
structure Sk (T : TypeId) (w0 w : World) (N k9 q6 q8 g gs k : Nat) (r : Bool) (vs : List R) (ss : List (List Int)) (y : R) (c5 d5 : Nat) (es : List Value) : Prop where
  lz : Lz w N k9 T ⟨r, vs, ss⟩ (.slice (some ⟨g, 0, none⟩) vs.length c5) (.slice (some ⟨gs, 0, none⟩) vs.length d5) es
  v6 : B6 w q6 0 y
  b8 : Bs w q8 false (.slice none 0 0) (.slice none 0 0)
  f8 : Fs w q8
  fg : ∀ j, w.frozen? ⟨g, j, none⟩ = false
  fs : ∀ j, w.frozen? ⟨gs, j, none⟩ = false
  bel : Below w0.heap.size w0 w
  n8 : w0.heap.size ≤ q8
  q6N : q6 < N
  q8N : q8 < N
  tT : T ≠ 38 ∧ T ≠ 3
  hk : k < vs.length
  hl : ss.length = vs.length
theorem frozen_keep {w w' : World} {g : Nat} (h : ∀ j, w.frozen? ⟨g, j, none⟩ = false) (e : w'.heap[g]? = w.heap[g]?) : ∀ j, w'.frozen? ⟨g, j, none⟩ = false := fun j => (World.frozen?_of_block (a := ⟨g, j, none⟩) e).trans (h j)
theorem Sk.keep {T : TypeId} {w0 w w' : World} {N k9 q6 q8 g gs k : Nat} {r : Bool} {vs : List R} {ss : List (List Int)} {y : R} {c5 d5 : Nat} {es : List Value} (h : Sk T w0 w N k9 q6 q8 g gs k r vs ss y c5 d5 es) (hb : Below w.heap.size w w') : Sk T w0 w' N k9 q6 q8 g gs k r vs ss y c5 d5 es :=
  ⟨h.lz.of hb, h.v6.keep hb, h.b8.keep hb, h.f8.of (hb.block _ h.b8.lt), frozen_keep h.fg (hb.block _ (h.lz.ov.lt g rfl).2), frozen_keep h.fs (hb.block _ (h.lz.os.lt gs rfl).2), h.bel.trans (hb.mono h.bel.size), h.n8, h.q6N, h.q8N, h.tT, h.hk, h.hl⟩
theorem Sk.S {T : TypeId} {w0 w : World} {N k9 q6 q8 g gs k : Nat} {r : Bool} {vs : List R} {ss : List (List Int)} {y : R} {c5 d5 : Nat} {es : List Value} (h : Sk T w0 w N k9 q6 q8 g gs k r vs ss y c5 d5 es) : w.cell? ⟨k9, 1, none⟩ = some (.slice (some ⟨g, 0, none⟩) vs.length c5) ∧ w.cell? ⟨k9, 2, none⟩ = some (.slice (some ⟨gs, 0, none⟩) vs.length d5) ∧ w.cell? ⟨q6, 0, none⟩ = some (.int .i64 y.s) ∧ w.cell? ⟨q6, 1, none⟩ = some (.bool y.k) ∧ w.cell? ⟨q6, 2, none⟩ = some (.int .i64 y.n) ∧ w.cell? ⟨q6, 3, none⟩ = some (.int .i64 y.lo) ∧ w.cell? ⟨q6, 4, none⟩ = some (.int .i64 y.hi) ∧ w.cell? ⟨q6, 5, none⟩ = some (.int .i64 y.p) :=
  ⟨h.lz.bx.c1, h.lz.bx.c2, h.v6.c0, h.v6.c1, h.v6.c2, h.v6.c3, h.v6.c4, h.v6.c5⟩
theorem Sk.x6 {T : TypeId} {w0 w : World} {N k9 q6 q8 g gs k : Nat} {r : Bool} {vs : List R} {ss : List (List Int)} {y : R} {c5 d5 : Nat} {es : List Value} (h : Sk T w0 w N k9 q6 q8 g gs k r vs ss y c5 d5 es) : B6 w g (k * 6) (vs[k]'h.hk) := by
  obtain ⟨b, o, eq, h6⟩ := h.lz.ov.rv k (vs[k]'h.hk) (by simp [h.hk])
  obtain ⟨rfl, rfl⟩ : g = b ∧ 0 = o := by simpa using eq
  rw [Nat.zero_add] at h6
  exact h6
/-- behind the first store -/
structure Sm9 (w0 w : World) (N k9 q6 q8 g gs k : Nat) (r : Bool) (vs : List R) (ss : List (List Int)) (y : R) (c5 d5 : Nat) (es : List Value) : Prop where
  b9 : Bs w k9 r (.slice (some ⟨g, 0, none⟩) vs.length c5) (.slice (some ⟨gs, 0, none⟩) vs.length d5)
  v6 : B6 w q6 0 y
  b8 : Bs w q8 false (.slice none 0 0) (.slice none 0 0)
  f8 : Fs w q8
  rv : RV w (some ⟨g, 0, none⟩) (vs.set k y)
  os : OwR w N (.slice (some ⟨gs, 0, none⟩) vs.length d5) es
  inn : Inn w N es ss
  fs : ∀ j, w.frozen? ⟨gs, j, none⟩ = false
  bel : Below w0.heap.size w0 w
  n8 : w0.heap.size ≤ q8
  q8N : q8 < N
  q6N : q6 < N
  gN : N ≤ g
  gl : g < w.heap.size
  g9 : g < k9
  s9 : gs < k9
  ne : g ≠ gs
  hk : k < vs.length
  hl : ss.length = vs.length
  lc : vs.length ≤ c5
  ld : vs.length ≤ d5
theorem Sk.mid {T : TypeId} {w0 w : World} {N k9 q6 q8 g gs k : Nat} {r : Bool} {vs : List R} {ss : List (List Int)} {y : R} {c5 d5 : Nat} {es : List Value} (h : Sk T w0 w N k9 q6 q8 g gs k r vs ss y c5 d5 es) : Sm9 w0 (st6o w g (k * 6) (.int .i64 y.s) (.bool y.k) (.int .i64 y.n) (.int .i64 y.lo) (.int .i64 y.hi) (.int .i64 y.p)) N k9 q6 q8 g gs k r vs ss y c5 d5 es := by
  have f1 : ∀ k', k' ≠ g → (st6o w g (k * 6) (.int .i64 y.s) (.bool y.k) (.int .i64 y.n) (.int .i64 y.lo) (.int .i64 y.hi) (.int .i64 y.p)).heap[k']? = w.heap[k']? := fun k' hk' => st6o_block _ _ _ _ _ _ _ _ _ k' hk'
  have g1 := (h.lz.ov.lt g rfl).1
  have gl := (h.lz.ov.lt g rfl).2
  have g2 := (h.lz.os.lt gs rfl).1
  have g3 := h.lz.lv g rfl
  have g4 := h.lz.ls gs rfl
  have ne1 : g ≠ gs := fun e => own_ne h.lz.ov h.lz.os h.tT.1 g rfl (by rw [e]; rfl)
  have hq6 := h.q6N
  have hq8 := h.q8N
  have hn8 := h.n8
  obtain ⟨_, c', e', l1, -⟩ := h.lz.ov.slice
  obtain ⟨_, d', e2', l2, -⟩ := h.lz.os.slice
  simp only [Value.slice.injEq] at e' e2'
  have l3 : vs.length ≤ c' := l1
  have l5 : c5 = c' := e'.2.2
  have l6 : d5 = d' := e2'.2.2
  have l7 : vs.length = es.length := e2'.2.1
  exact ⟨h.lz.bx.of (f1 _ (by omega)), h.v6.of (f1 _ (by omega)), h.b8.of (f1 _ (by omega)), h.f8.of (f1 _ (by omega)), rv_set h.lz.ov.rv h.hk y,
    h.lz.os.of (fun k' hk' => f1 k' (fun e => ne1 (by have hk2 : gs = k' := (by simpa [Value.ownBlock] using hk'); omega))),
    ⟨h.lz.inn.1, fun m l hm => by
      obtain ⟨e, h1, h2⟩ := h.lz.inn.2 m l hm
      exact ⟨e, h1, h2.of (fun k' hk' => f1 k' (fun t => own_ne h2 h.lz.ov (fun t => h.tT.2 t.symm) k' hk' (by rw [t]; rfl)))⟩⟩,
    fun j => (World.frozen?_of_block (a := ⟨gs, j, none⟩) (f1 gs (fun t => ne1 t.symm))).trans (h.fs j), st6o_below h.bel g _ (by omega) _ _ _ _ _ _, hn8, hq8, hq6, g1, by simpa [st6o] using gl, g3, g4, ne1, h.hk, h.hl, by omega, by omega⟩
theorem Sk.yk {T : TypeId} {w0 w : World} {N k9 q6 q8 g gs k : Nat} {r : Bool} {vs : List R} {ss : List (List Int)} {y : R} {c5 d5 : Nat} {es : List Value} (h : Sk T w0 w N k9 q6 q8 g gs k r vs ss y c5 d5 es) {nb : Nat} {site : Int} (hs : w.cell? ⟨nb, 0, none⟩ = some (.int .i64 site)) (hn : k9 < nb) : (st6o w g (k * 6) (.int .i64 y.s) (.bool y.k) (.int .i64 y.n) (.int .i64 y.lo) (.int .i64 y.hi) (.int .i64 y.p)).cell? ⟨nb, 0, none⟩ = some (.int .i64 site) := by
  have g3 := h.lz.lv g rfl
  exact (World.cell?_of_block (a := ⟨nb, 0, none⟩) (st6o_block _ _ _ _ _ _ _ _ _ nb (by omega))).trans hs
theorem Sm9.keep {w0 w : World} {N k9 q6 q8 g gs k : Nat} {r : Bool} {vs : List R} {ss : List (List Int)} {y : R} {c5 d5 : Nat} {es : List Value} {w' : World} (h : Sm9 w0 w N k9 q6 q8 g gs k r vs ss y c5 d5 es) (hb : Below w.heap.size w w') : Sm9 w0 w' N k9 q6 q8 g gs k r vs ss y c5 d5 es :=
  ⟨h.b9.keep hb, h.v6.keep hb, h.b8.keep hb, h.f8.of (hb.block _ h.b8.lt), h.rv.keep hb, h.os.of (fun k hk => hb.block k (h.os.lt k hk).2), ⟨h.inn.1, fun m l hm => by
    obtain ⟨e, h1, h2⟩ := h.inn.2 m l hm
    exact ⟨e, h1, h2.keep hb⟩⟩, frozen_keep h.fs (hb.block _ (h.os.lt gs rfl).2), h.bel.trans (hb.mono h.bel.size), h.n8, h.q8N, h.q6N, h.gN, Nat.lt_of_lt_of_le h.gl hb.size, h.g9, h.s9, h.ne, h.hk, h.hl, h.lc, h.ld⟩
theorem Sm9.S {w0 w : World} {N k9 q6 q8 g gs k : Nat} {r : Bool} {vs : List R} {ss : List (List Int)} {y : R} {c5 d5 : Nat} {es : List Value} (h : Sm9 w0 w N k9 q6 q8 g gs k r vs ss y c5 d5 es) : w.cell? ⟨k9, 1, none⟩ = some (.slice (some ⟨g, 0, none⟩) vs.length c5) ∧ w.cell? ⟨k9, 2, none⟩ = some (.slice (some ⟨gs, 0, none⟩) vs.length d5) ∧ w.cell? ⟨q6, 0, none⟩ = some (.int .i64 y.s) ∧ w.cell? ⟨q6, 1, none⟩ = some (.bool y.k) ∧ w.cell? ⟨q6, 2, none⟩ = some (.int .i64 y.n) ∧ w.cell? ⟨q6, 3, none⟩ = some (.int .i64 y.lo) ∧ w.cell? ⟨q6, 4, none⟩ = some (.int .i64 y.hi) ∧ w.cell? ⟨q6, 5, none⟩ = some (.int .i64 y.p) :=
  ⟨h.b9.c1, h.b9.c2, h.v6.c0, h.v6.c1, h.v6.c2, h.v6.c3, h.v6.c4, h.v6.c5⟩
theorem Sm9.cs {w0 w : World} {N k9 q6 q8 g gs k : Nat} {r : Bool} {vs : List R} {ss : List (List Int)} {y : R} {c5 d5 : Nat} {es : List Value} (h : Sm9 w0 w N k9 q6 q8 g gs k r vs ss y c5 d5 es) : ∃ e9, w.cell? ⟨gs, k, none⟩ = some e9 := by
  obtain ⟨e, k1, k2⟩ := h.inn.2 k (ss[k]'(by have := h.hk; have := h.hl; omega)) (by simp)
  obtain ⟨b, o, eq, k3⟩ := h.os.cell k1
  obtain ⟨rfl, rfl⟩ : gs = b ∧ 0 = o := by simpa using eq
  rw [Nat.zero_add] at k3
  exact ⟨e, k3⟩
/-- behind both -/
structure Sf9 (w0 w : World) (N k9 q6 q8 g gs k : Nat) (r : Bool) (vs : List R) (ss : List (List Int)) (y : R) (c5 d5 : Nat) (site : Int) : Prop where
  b9 : Bs w k9 r (.slice (some ⟨g, 0, none⟩) vs.length c5) (.slice (some ⟨gs, 0, none⟩) vs.length d5)
  v6 : B6 w q6 0 y
  b8 : Bs w q8 false (.slice none 0 0) (.slice none 0 0)
  f8 : Fs w q8
  bel : Below w0.heap.size w0 w
  n8 : w0.heap.size ≤ q8
  q8N : q8 < N
  rn : Rn w N (.agg #[.bool r, .slice (some ⟨g, 0, none⟩) vs.length c5, .slice (some ⟨gs, 0, none⟩) vs.length d5]) ⟨r, vs.set k y, ss.set k [site]⟩
theorem Sm9.fin {w0 w : World} {N k9 q6 q8 g gs k : Nat} {r : Bool} {vs : List R} {ss : List (List Int)} {y : R} {c5 d5 : Nat} {es : List Value} (h : Sm9 w0 w N k9 q6 q8 g gs k r vs ss y c5 d5 es) {nb : Nat} {site : Int} (hs : w.cell? ⟨nb, 0, none⟩ = some (.int .i64 site)) (hn : k9 < nb) : Sf9 w0 (w.setCell ⟨gs, k, none⟩ (.slice (some ⟨nb, 0, none⟩) 1 1)) N k9 q6 q8 g gs k r vs ss y c5 d5 site := by
  have f1 : ∀ k', k' ≠ gs → (w.setCell ⟨gs, k, none⟩ (.slice (some ⟨nb, 0, none⟩) 1 1)).heap[k']? = w.heap[k']? := fun k' hk' => set_block w gs k _ k' hk'
  have g2 := (h.os.lt gs rfl).1
  have g4 := h.s9
  have g5 := h.g9
  have g6 := h.gN
  have hq6 := h.q6N
  have hq8 := h.q8N
  have hn8 := h.n8
  have hhl := h.hl
  have hL : Rl w (.slice (some ⟨nb, 0, none⟩) 1 1) [site] := by
    refine ⟨_, _, rfl, fun j z hj => ?_, Nat.le_refl _, fun e => by cases e⟩
    cases j with
    | zero => obtain rfl : site = z := by simpa using hj
              exact ⟨nb, 0, rfl, hs⟩
    | succ j => simp at hj
  have hr := rr_set h.os h.inn (by have := h.hk; omega : k < ss.length) hL (fun k' hk' e => by have hk2 : nb = k' := (by simpa [Value.ownBlock] using hk'); omega) (fun k' hk' => by have hk2 : nb = k' := (by simpa [Value.ownBlock] using hk'); omega)
  have hrn : Rn (w.setCell ⟨gs, k, none⟩ (.slice (some ⟨nb, 0, none⟩) 1 1)) N (.agg #[.bool r, .slice (some ⟨g, 0, none⟩) vs.length c5, .slice (some ⟨gs, 0, none⟩) vs.length d5]) ⟨r, vs.set k y, ss.set k [site]⟩ := by
    refine ⟨some ⟨g, 0, none⟩, c5, some ⟨gs, 0, none⟩, d5, by simp [hhl], fun m x hx => ?_, fun m l hm => ?_, by rw [List.length_set]; exact h.lc, by rw [List.length_set, hhl]; exact h.ld, fun e => (by cases e), fun e => (by cases e)⟩
    · obtain ⟨b, o, eq, h6⟩ := h.rv m x hx
      obtain ⟨rfl, rfl⟩ : g = b ∧ 0 = o := by simpa using eq
      exact ⟨g, 0, rfl, g6, h6.of (f1 g h.ne)⟩
    · obtain ⟨e, k1, k2, k3⟩ := hr m l hm
      exact ⟨gs, 0, e, rfl, g2, k1, k2, k3⟩
  exact ⟨h.b9.of (f1 _ (by omega)), h.v6.of (f1 _ (by omega)), h.b8.of (f1 _ (by omega)), h.f8.of (f1 _ (by omega)), h.bel.setCell (p := ⟨gs, k, none⟩) (by show w0.heap.size ≤ gs; omega) _, hn8, hq8, hrn⟩
theorem Sf9.S {w0 w : World} {N k9 q6 q8 g gs k : Nat} {r : Bool} {vs : List R} {ss : List (List Int)} {y : R} {c5 d5 : Nat} {site : Int} (h : Sf9 w0 w N k9 q6 q8 g gs k r vs ss y c5 d5 site) : w.cell? ⟨k9, 1, none⟩ = some (.slice (some ⟨g, 0, none⟩) vs.length c5) ∧ w.cell? ⟨k9, 2, none⟩ = some (.slice (some ⟨gs, 0, none⟩) vs.length d5) ∧ w.cell? ⟨q6, 0, none⟩ = some (.int .i64 y.s) ∧ w.cell? ⟨q6, 1, none⟩ = some (.bool y.k) ∧ w.cell? ⟨q6, 2, none⟩ = some (.int .i64 y.n) ∧ w.cell? ⟨q6, 3, none⟩ = some (.int .i64 y.lo) ∧ w.cell? ⟨q6, 4, none⟩ = some (.int .i64 y.hi) ∧ w.cell? ⟨q6, 5, none⟩ = some (.int .i64 y.p) :=
  ⟨h.b9.c1, h.b9.c2, h.v6.c0, h.v6.c1, h.v6.c2, h.v6.c3, h.v6.c4, h.v6.c5⟩
set_option maxRecDepth 100000 in
set_option maxHeartbeats 8000000 in
theorem set_S0 (a b : Option Addr) (c d : Nat) (r : Bool) (vs : List R) (ss : List (List Int)) (i : Int) (y : R) (site : Int) (w : World) (hv : RV w a vs) (hs : RR w b ss) (hvc : vs.length ≤ c) (hva : a = none → c = 0) (hl1 : vs.length ≤ 100000) (hl2 : ss.length = vs.length) (hl3 : ∀ (m : Nat) (l : List Int), ss[m]? = some l → l.length ≤ 100000) :
    Calls Try.prog 29 #[.agg #[.bool r, .slice a vs.length c, .slice b ss.length d], .int .i64 i, aR y, .int .i64 site] w fun e w' => ∃ v, e = .returned v ∧ Below w.heap.size w w' ∧ Rs w' v (if r = true ∧ 0 ≤ i ∧ i < (vs.length : Int) then ⟨r, vs.set i.toNat y, ss.set i.toNat [site]⟩ else ⟨r, vs, ss⟩) := by
  have cC : ∀ w', Below w.heap.size w w' → _ := fun w' h => copyO a b c d r vs ss w' (hv.keep h) (hs.keep h) hvc hva hl1 (by omega) hl3
  have cR := fun w => hasReg_any r a b vs.length c d i w
  rw [hl2] at cC ⊢
  clear hv hs hvc hva hl3
  obtain ⟨z, hz⟩ : ∃ z, z = (if r = true ∧ 0 ≤ i ∧ i < (vs.length : Int) then (⟨r, vs.set i.toNat y, ss.set i.toNat [site]⟩ : S) else ⟨r, vs, ss⟩) := ⟨_, rfl⟩
  rw [← hz]
  have HZ := hide hz
  clear hz
  go_enter Try.func29, Try.ntmps29
  go_upto_region 1 with fail
  go_name_world W hW
  obtain ⟨q8, h8⟩ : ∃ z9, z9 = w.heap.size + 1 + 1 := ⟨_, rfl⟩
  rw [← h8]
  obtain ⟨q6, h6⟩ : ∃ z9, z9 = w.heap.size + 1 := ⟨_, rfl⟩
  rw [← h6]
  obtain ⟨q4, h4⟩ : ∃ z9, z9 = w.heap.size := ⟨_, rfl⟩
  rw [← h4]
  obtain ⟨B4, B6, B8, F8, u⟩ := boxes_sv w _ _ _ _ _ _ _ W hW
  rw [← h4] at B4
  rw [← h6] at B6
  rw [← h8] at B8 F8
  have HB := hide (And.intro B4 (And.intro B6 (And.intro B8 F8)))
  have HU := hide u
  have HQ : Hid (w.heap.size ≤ q8) := hide (by omega)
  have x0 := B4.c0
  have x1 := B4.c1
  have x2 := B4.c2
  clear hW h8 h6 h4 B4 B6 B8 F8 u
  go_upto_region 2 with (go_at_call 22; refine (cC _ HU.out).mono ?_; rintro e wB ⟨v, rfl, hO, hB⟩; obtain ⟨a5, c5, b5, d5, es, rfl, h1, h2, h3, h4⟩ := own3_form hO; dsimp only at h1 h2 h3 ⊢; clear hO cC; rw [hl2] at h2 ⊢; replace hB := hide hB; replace h1 := hide h1; replace h2 := hide h2; replace h3 := hide h3; replace h4 := hide h4)
  go_name_world W2 hW2
  obtain ⟨k9, hk9⟩ : ∃ z9, z9 = wB.heap.size := ⟨_, rfl⟩
  rw [← hk9]
  obtain ⟨N, hN⟩ : ∃ z9, z9 = W.heap.size := ⟨_, rfl⟩
  have HL : Hid (Lz W2 N k9 53 ⟨r, vs, ss⟩ (.slice a5 vs.length c5) (.slice b5 vs.length d5) es) := by
    rw [← hW2, hk9, hN]
    exact hide (Lz.start (s := ⟨r, vs, ss⟩) h1.out h2.out h3.out h4.out)
  have u2 : Below wB.heap.size wB W2 := hW2 ▸ (Below.refl _ _).alloc (Nat.le_refl _) _
  have bW := hB.out.trans (u2.mono hB.out.size)
  have HK1 : Hid (Bs W2 q4 r (.slice a vs.length c) (.slice b vs.length d) ∧ B6 W2 q6 0 y ∧ Bs W2 q8 false (.slice none 0 0) (.slice none 0 0) ∧ Fs W2 q8 ∧ Below w.heap.size w W2 ∧ q6 < N ∧ q8 < N) := hide ⟨HB.out.1.keep bW, HB.out.2.1.keep bW, HB.out.2.2.1.keep bW, HB.out.2.2.2.of (bW.block _ HB.out.2.2.1.lt), HU.out.trans (bW.mono HU.out.size), by rw [hN]; exact HB.out.2.1.lt, by rw [hN]; exact HB.out.2.2.1.lt⟩
  clear hW2 hk9 hN h1 h2 h3 h4 hB u2 bW HB HU x0 x1 x2
  have x0 := HK1.out.1.c0
  have x1 := HK1.out.1.c1
  have x2 := HK1.out.1.c2
  by_cases hc : r = true ∧ 0 ≤ i ∧ i < (vs.length : Int)
  · rw [decide_eq_true hc] at cR
    obtain ⟨k, rfl⟩ : ∃ k : Nat, i = k := ⟨i.toNat, by omega⟩
    have hk : k < vs.length := by omega
    have hk2 : (k : Int) < vs.length := by omega
    have HC := hide hc
    clear hc
    obtain ⟨g, rfl, -⟩ := HL.out.ov.some9 (by omega)
    obtain ⟨gs, rfl, -⟩ := HL.out.os.some9 (by omega)
    go_upto_region 3 with (go_at_call 67; refine (cR _).mono ?_; rintro e W3 ⟨rfl, hR⟩; replace hR := hide hR; clear cR x0 x1 x2)
    have HK : Hid (Sk 53 w W3 N k9 q6 q8 g gs k r vs ss y c5 d5 es) := by
      have l2 := HL.out.of hR.out
      obtain ⟨_, e1, f1⟩ := l2.ov.some9 (by omega)
      obtain ⟨_, e2, f2⟩ := l2.os.some9 (by omega)
      obtain rfl : g = _ := by simpa using e1
      obtain rfl : gs = _ := by simpa using e2
      exact hide ⟨l2, HK1.out.2.1.keep hR.out, HK1.out.2.2.1.keep hR.out, HK1.out.2.2.2.1.of (hR.out.block _ HK1.out.2.2.1.lt), f1, f2, HK1.out.2.2.2.2.1.trans (hR.out.mono HK1.out.2.2.2.2.1.size), HQ.out, HK1.out.2.2.2.2.2.1, HK1.out.2.2.2.2.2.2, by decide, hk, hl2⟩
    clear HL HK1 hR
    refine wp_region_held_drew (S := fun w' => w'.cell? ⟨k9, 1, none⟩ = some (.slice (some ⟨g, 0, none⟩) vs.length c5) ∧ w'.cell? ⟨k9, 2, none⟩ = some (.slice (some ⟨gs, 0, none⟩) vs.length d5) ∧ w'.cell? ⟨q6, 0, none⟩ = some (.int .i64 y.s) ∧ w'.cell? ⟨q6, 1, none⟩ = some (.bool y.k) ∧ w'.cell? ⟨q6, 2, none⟩ = some (.int .i64 y.n) ∧ w'.cell? ⟨q6, 3, none⟩ = some (.int .i64 y.lo) ∧ w'.cell? ⟨q6, 4, none⟩ = some (.int .i64 y.hi) ∧ w'.cell? ⟨q6, 5, none⟩ = some (.int .i64 y.p)) (by kernel_rfl) (HK.out.keep (Below.refl _ _).drew).S (fun hH0 => ?_)
    obtain ⟨w0, hw0⟩ : ∃ w0, w0 = W3.drew := ⟨_, rfl⟩
    (try rw [← hw0] at hH0)
    rw [← hw0]
    have K0 : Hid (Sk 53 w w0 N k9 q6 q8 g gs k r vs ss y c5 d5 es) := hw0 ▸ hide (HK.out.keep (Below.refl _ _).drew)
    clear hw0
    refine wpAnyH_take (i := 0) (oi := ({ dst := some 15, op := Op.fieldAddr 29 (Operand.tmp 9) 1, type := 0, pos := _, after := _, guard := _ } : Oper)) (v := ?_) rfl (by kernel_rfl) (by kernel_rfl) (by kernel_rfl) (fun _ _ _ h => h) (Or.inl ⟨by rfl, ?_⟩) (by assumption) ?_
    rotate_left
    · (intro wz hSw; (try dsimp only at hSw); go_simp; try with_reducible rfl)
    simp only [Act.put, List.setIfInBounds_toArray, List.set_cons_zero, List.set_cons_succ]
    refine wpAnyH_take (i := 1) (oi := ({ dst := some 16, op := Op.load 27 (Operand.tmp 15), type := 27, pos := _, after := _, guard := _ } : Oper)) (v := ?_) rfl (by kernel_rfl) (by kernel_rfl) (by kernel_rfl) (fun _ _ _ h => h) (Or.inl ⟨by rfl, ?_⟩) (by assumption) ?_
    rotate_left
    · (intro wz hSw; (try dsimp only at hSw); go_simp; try with_reducible rfl)
    simp only [Act.put, List.setIfInBounds_toArray, List.set_cons_zero, List.set_cons_succ]
    refine wpAnyH_take (i := 2) (oi := ({ dst := some 17, op := Op.move (Operand.tmp 1), type := 3, pos := _, after := _, guard := _ } : Oper)) (v := ?_) rfl (by kernel_rfl) (by kernel_rfl) (by kernel_rfl) (fun _ _ _ h => h) (Or.inl ⟨by rfl, ?_⟩) (by assumption) ?_
    rotate_left
    · (intro wz hSw; (try dsimp only at hSw); go_simp; try with_reducible rfl)
    simp only [Act.put, List.setIfInBounds_toArray, List.set_cons_zero, List.set_cons_succ]
    refine wpAnyH_take (i := 3) (oi := ({ dst := some 18, op := Op.fieldAddr 29 (Operand.tmp 9) 2, type := 0, pos := _, after := _, guard := _ } : Oper)) (v := ?_) rfl (by kernel_rfl) (by kernel_rfl) (by kernel_rfl) (fun _ _ _ h => h) (Or.inl ⟨by rfl, ?_⟩) (by assumption) ?_
    rotate_left
    · (intro wz hSw; (try dsimp only at hSw); go_simp; try with_reducible rfl)
    simp only [Act.put, List.setIfInBounds_toArray, List.set_cons_zero, List.set_cons_succ]
    refine wpAnyH_take (i := 4) (oi := ({ dst := some 19, op := Op.load 23 (Operand.tmp 18), type := 23, pos := _, after := _, guard := _ } : Oper)) (v := ?_) rfl (by kernel_rfl) (by kernel_rfl) (by kernel_rfl) (fun _ _ _ h => h) (Or.inl ⟨by rfl, ?_⟩) (by assumption) ?_
    rotate_left
    · (intro wz hSw; (try dsimp only at hSw); go_simp; try with_reducible rfl)
    simp only [Act.put, List.setIfInBounds_toArray, List.set_cons_zero, List.set_cons_succ]
    refine wpAnyH_take (i := 5) (oi := ({ dst := some 20, op := Op.move (Operand.tmp 1), type := 3, pos := _, after := _, guard := _ } : Oper)) (v := ?_) rfl (by kernel_rfl) (by kernel_rfl) (by kernel_rfl) (fun _ _ _ h => h) (Or.inl ⟨by rfl, ?_⟩) (by assumption) ?_
    rotate_left
    · (intro wz hSw; (try dsimp only at hSw); go_simp; try with_reducible rfl)
    simp only [Act.put, List.setIfInBounds_toArray, List.set_cons_zero, List.set_cons_succ]
    refine wpAnyH_take (i := 6) (oi := ({ dst := some 21, op := Op.load 53 (Operand.tmp 6), type := 53, pos := _, after := _, guard := _ } : Oper)) (v := ?_) rfl (by kernel_rfl) (by kernel_rfl) (by kernel_rfl) (fun _ _ _ h => h) (Or.inl ⟨by rfl, ?_⟩) (by assumption) ?_
    rotate_left
    · (intro wz hSw; (try dsimp only at hSw); go_simp; try with_reducible rfl)
    simp only [Act.put, List.setIfInBounds_toArray, List.set_cons_zero, List.set_cons_succ]
    refine wpAnyH_take (i := 7) (oi := ({ dst := some 22, op := Op.move (Operand.tmp 3), type := 3, pos := _, after := _, guard := _ } : Oper)) (v := ?_) rfl (by kernel_rfl) (by kernel_rfl) (by kernel_rfl) (fun _ _ _ h => h) (Or.inl ⟨by rfl, ?_⟩) (by assumption) ?_
    rotate_left
    · (intro wz hSw; (try dsimp only at hSw); go_simp; try with_reducible rfl)
    simp only [Act.put, List.setIfInBounds_toArray, List.set_cons_zero, List.set_cons_succ]
    refine wpAnyH_take (i := 9) (oi := ({ dst := some 24, op := Op.indexAddr 27 (Operand.tmp 16) (Operand.tmp 17), type := 0, pos := _, after := _, guard := _ } : Oper)) (v := ?_) rfl (by kernel_rfl) (by kernel_rfl) (by kernel_rfl) (fun _ _ _ h => h) (Or.inl ⟨by rfl, ?_⟩) (by assumption) ?_
    rotate_left
    · (intro wz hSw; (try dsimp only at hSw); go_simp; try with_reducible rfl)
    simp only [Act.put, List.setIfInBounds_toArray, List.set_cons_zero, List.set_cons_succ]
    refine wpAnyH_ready (rs := [8, 10]) (by kernel_rfl) (by simp) ?_
    refine AllReadyH.cons (o := ({ dst := some 23, op := Op.buildSlice 38 1 #[(0, Operand.tmp 22)], type := 38, pos := _, after := _, guard := _ } : Oper)) rfl (fun K hK => ?_) (AllReadyH.cons (o := ({ dst := none, op := Op.store 53 (Operand.tmp 24) (Operand.tmp 21), type := 0, pos := _, after := _, guard := _ } : Oper)) rfl (fun K hK => ?_) AllReadyH.nil)
    · go_simp
      have hb1 : Below w0.heap.size w0 (w0.alloc (.cells #[.int .i64 site] 3)) := (Below.refl _ _).alloc (Nat.le_refl _) _
      have K1 := hide (K0.out.keep hb1)
      have Y1 : Hid ((w0.alloc (.cells #[.int .i64 site] 3)).cell? ⟨w0.heap.size, 0, none⟩ = some (.int .i64 site)) := hide (by simp)
      have NB : Hid (k9 < w0.heap.size) := hide K0.out.lz.bx.lt
      refine hK.out _ _ K1.out.S (fun hH1 => ?_)
      clear hK K hb1
      obtain ⟨w1, hw1⟩ : ∃ z9, z9 = (w0.alloc (.cells #[.int .i64 site] 3)) := ⟨_, rfl⟩
      rw [← hw1] at hH1 K1 Y1 ⊢
      clear hw1
      generalize w0.heap.size = nb at *
      refine wpAnyH_ready (rs := [10]) (by kernel_rfl) (by simp) ?_
      refine AllReadyH.cons (o := ({ dst := none, op := Op.store 53 (Operand.tmp 24) (Operand.tmp 21), type := 0, pos := _, after := _, guard := _ } : Oper)) rfl (fun K hK => ?_) AllReadyH.nil
      · have zc := K1.out.x6
        have c0 := zc.c0
        have c1 := zc.c1
        have c2 := zc.c2
        have c3 := zc.c3
        have c4 := zc.c4
        have c5 := zc.c5
        have f0 := K1.out.fg (k * 6)
        have f1 := K1.out.fg (k * 6 + 1)
        have f2 := K1.out.fg (k * 6 + 2)
        have f3 := K1.out.fg (k * 6 + 3)
        have f4 := K1.out.fg (k * 6 + 4)
        have f5 := K1.out.fg (k * 6 + 5)
        go_simp
        have M2 := hide (K1.out.mid)
        have Y2 := hide (K1.out.yk Y1.out NB.out)
        unfold st6o at M2 Y2
        refine hK.out _ _ M2.out.S (fun hH2 => ?_)
        clear hK K zc c0 f0 c1 f1 c2 f2 c3 f3 c4 f4 c5 f5
        obtain ⟨w2, hw2⟩ : ∃ z9, z9 = (((((w1.setCell ⟨g, k * 6, none⟩ (.int .i64 y.s)).setCell ⟨g, k * 6 + 1, none⟩ (.bool y.k)).setCell ⟨g, k * 6 + 2, none⟩ (.int .i64 y.n)).setCell ⟨g, k * 6 + 3, none⟩ (.int .i64 y.lo)).setCell ⟨g, k * 6 + 4, none⟩ (.int .i64 y.hi)).setCell ⟨g, k * 6 + 5, none⟩ (.int .i64 y.p) := ⟨_, rfl⟩
        rw [← hw2] at M2 Y2 hH2 ⊢
        clear hw2
        refine wpAnyH_take (i := 11) (oi := ({ dst := some 25, op := Op.indexAddr 23 (Operand.tmp 19) (Operand.tmp 20), type := 0, pos := _, after := _, guard := _ } : Oper)) (v := ?_) rfl (by kernel_rfl) (by kernel_rfl) (by kernel_rfl) (fun _ _ _ h => h) (Or.inl ⟨by rfl, ?_⟩) (by assumption) ?_
        rotate_left
        · (intro wz hSw; (try dsimp only at hSw); go_simp; try with_reducible rfl)
        simp only [Act.put, List.setIfInBounds_toArray, List.set_cons_zero, List.set_cons_succ]
        refine wpAnyH_ready (rs := [12]) (by kernel_rfl) (by simp) ?_
        refine AllReadyH.cons (o := ({ dst := none, op := Op.store 38 (Operand.tmp 25) (Operand.tmp 23), type := 0, pos := _, after := _, guard := _ } : Oper)) rfl (fun K hK => ?_) AllReadyH.nil
        · obtain ⟨e9, zc⟩ := M2.out.cs
          have zf := M2.out.fs k
          go_simp
          have R := hide (M2.out.fin Y2.out NB.out)
          refine hK.out _ _ R.out.S (fun hR => ?_)
          clear hK K zc zf
          refine wpAnyH_done (by kernel_rfl) ?_ _
          clear M2 hH2
          obtain ⟨u1, hu1⟩ : ∃ z9, z9 = w2.setCell ⟨gs, k, none⟩ (.slice (some ⟨nb, 0, none⟩) 1 1) := ⟨_, rfl⟩
          rw [← hu1] at R ⊢
          clear hu1
          have z0 := R.out.b9.c0
          have z1 := R.out.b9.c1
          have z2 := R.out.b9.c2
          have x0 := R.out.b8.c0
          have x1 := R.out.b8.c1
          have x2 := R.out.b8.c2
          have y0 := R.out.f8.f0
          have y1 := R.out.f8.f1
          have y2 := R.out.f8.f2
          go_wp2_with fail
          have x := R.out.b8.put3 r (.slice (some ⟨g, 0, none⟩) vs.length c5) (.slice (some ⟨gs, 0, none⟩) vs.length d5)
          have v0 := x.c0
          have v1 := x.c1
          have v2 := x.c2
          clear z0 z1 z2 x0 x1 x2 y0 y1 y2
          exact bodyPost_ret (by simp [results, Try.results29, go_sem, v0, v1, v2]; try rfl) rfl ⟨_, rfl, st3_below R.out.bel q8 R.out.n8 r (.slice (some ⟨g, 0, none⟩) vs.length c5) (.slice (some ⟨gs, 0, none⟩) vs.length d5), by rw [HZ.out, if_pos HC.out, Int.toNat_natCast]; exact (R.out.rn.st3 R.out.q8N r (.slice (some ⟨g, 0, none⟩) vs.length c5) (.slice (some ⟨gs, 0, none⟩) vs.length d5)).rs⟩
    · have zc := K0.out.x6
      have c0 := zc.c0
      have c1 := zc.c1
      have c2 := zc.c2
      have c3 := zc.c3
      have c4 := zc.c4
      have c5 := zc.c5
      have f0 := K0.out.fg (k * 6)
      have f1 := K0.out.fg (k * 6 + 1)
      have f2 := K0.out.fg (k * 6 + 2)
      have f3 := K0.out.fg (k * 6 + 3)
      have f4 := K0.out.fg (k * 6 + 4)
      have f5 := K0.out.fg (k * 6 + 5)
      go_simp
      have M1 := hide (K0.out.mid)
      unfold st6o at M1
      refine hK.out _ _ M1.out.S (fun hH1 => ?_)
      clear hK K zc c0 f0 c1 f1 c2 f2 c3 f3 c4 f4 c5 f5
      obtain ⟨w1, hw1⟩ : ∃ z9, z9 = (((((w0.setCell ⟨g, k * 6, none⟩ (.int .i64 y.s)).setCell ⟨g, k * 6 + 1, none⟩ (.bool y.k)).setCell ⟨g, k * 6 + 2, none⟩ (.int .i64 y.n)).setCell ⟨g, k * 6 + 3, none⟩ (.int .i64 y.lo)).setCell ⟨g, k * 6 + 4, none⟩ (.int .i64 y.hi)).setCell ⟨g, k * 6 + 5, none⟩ (.int .i64 y.p) := ⟨_, rfl⟩
      rw [← hw1] at M1 hH1 ⊢
      clear hw1
      refine wpAnyH_ready (rs := [8]) (by kernel_rfl) (by simp) ?_
      refine AllReadyH.cons (o := ({ dst := some 23, op := Op.buildSlice 38 1 #[(0, Operand.tmp 22)], type := 38, pos := _, after := _, guard := _ } : Oper)) rfl (fun K hK => ?_) AllReadyH.nil
      · go_simp
        have hb2 : Below w1.heap.size w1 (w1.alloc (.cells #[.int .i64 site] 3)) := (Below.refl _ _).alloc (Nat.le_refl _) _
        have M2 := hide (M1.out.keep hb2)
        have Y2 : Hid ((w1.alloc (.cells #[.int .i64 site] 3)).cell? ⟨w1.heap.size, 0, none⟩ = some (.int .i64 site)) := hide (by simp)
        have NB : Hid (k9 < w1.heap.size) := hide M1.out.b9.lt
        refine hK.out _ _ M2.out.S (fun hH2 => ?_)
        clear hK K hb2
        obtain ⟨w2, hw2⟩ : ∃ z9, z9 = (w1.alloc (.cells #[.int .i64 site] 3)) := ⟨_, rfl⟩
        rw [← hw2] at hH2 M2 Y2 ⊢
        clear hw2
        generalize w1.heap.size = nb at *
        refine wpAnyH_take (i := 11) (oi := ({ dst := some 25, op := Op.indexAddr 23 (Operand.tmp 19) (Operand.tmp 20), type := 0, pos := _, after := _, guard := _ } : Oper)) (v := ?_) rfl (by kernel_rfl) (by kernel_rfl) (by kernel_rfl) (fun _ _ _ h => h) (Or.inl ⟨by rfl, ?_⟩) (by assumption) ?_
        rotate_left
        · (intro wz hSw; (try dsimp only at hSw); go_simp; try with_reducible rfl)
        simp only [Act.put, List.setIfInBounds_toArray, List.set_cons_zero, List.set_cons_succ]
        refine wpAnyH_ready (rs := [12]) (by kernel_rfl) (by simp) ?_
        refine AllReadyH.cons (o := ({ dst := none, op := Op.store 38 (Operand.tmp 25) (Operand.tmp 23), type := 0, pos := _, after := _, guard := _ } : Oper)) rfl (fun K hK => ?_) AllReadyH.nil
        · obtain ⟨e9, zc⟩ := M2.out.cs
          have zf := M2.out.fs k
          go_simp
          have R := hide (M2.out.fin Y2.out NB.out)
          refine hK.out _ _ R.out.S (fun hR => ?_)
          clear hK K zc zf
          refine wpAnyH_done (by kernel_rfl) ?_ _
          clear M2 hH2
          obtain ⟨u1, hu1⟩ : ∃ z9, z9 = w2.setCell ⟨gs, k, none⟩ (.slice (some ⟨nb, 0, none⟩) 1 1) := ⟨_, rfl⟩
          rw [← hu1] at R ⊢
          clear hu1
          have z0 := R.out.b9.c0
          have z1 := R.out.b9.c1
          have z2 := R.out.b9.c2
          have x0 := R.out.b8.c0
          have x1 := R.out.b8.c1
          have x2 := R.out.b8.c2
          have y0 := R.out.f8.f0
          have y1 := R.out.f8.f1
          have y2 := R.out.f8.f2
          go_wp2_with fail
          have x := R.out.b8.put3 r (.slice (some ⟨g, 0, none⟩) vs.length c5) (.slice (some ⟨gs, 0, none⟩) vs.length d5)
          have v0 := x.c0
          have v1 := x.c1
          have v2 := x.c2
          clear z0 z1 z2 x0 x1 x2 y0 y1 y2
          exact bodyPost_ret (by simp [results, Try.results29, go_sem, v0, v1, v2]; try rfl) rfl ⟨_, rfl, st3_below R.out.bel q8 R.out.n8 r (.slice (some ⟨g, 0, none⟩) vs.length c5) (.slice (some ⟨gs, 0, none⟩) vs.length d5), by rw [HZ.out, if_pos HC.out, Int.toNat_natCast]; exact (R.out.rn.st3 R.out.q8N r (.slice (some ⟨g, 0, none⟩) vs.length c5) (.slice (some ⟨gs, 0, none⟩) vs.length d5)).rs⟩
  · rw [decide_eq_false hc] at cR
    have HC := hide hc
    clear hc
    obtain ⟨va, hva⟩ : ∃ z9, z9 = Value.slice a5 vs.length c5 := ⟨_, rfl⟩
    go_upto_region 4 with (go_at_call 67; refine (cR _).mono ?_; rintro e W3 ⟨rfl, hR⟩; replace hR := hide hR; clear cR x0 x1 x2)
    have L3 := hide (HL.out.of hR.out)
    have K8 := hide (And.intro (HK1.out.2.2.1.keep hR.out) (HK1.out.2.2.2.1.of (hR.out.block _ HK1.out.2.2.1.lt)))
    have b3 := hide (HK1.out.2.2.2.2.1.trans (hR.out.mono HK1.out.2.2.2.2.1.size))
    have hq8 := HK1.out.2.2.2.2.2.2
    clear HL HK1 hR
    have z0 := L3.out.bx.c0
    have z1 := L3.out.bx.c1
    have z2 := L3.out.bx.c2
    have x0 := K8.out.1.c0
    have x1 := K8.out.1.c1
    have x2 := K8.out.1.c2
    have y0 := K8.out.2.f0
    have y1 := K8.out.2.f1
    have y2 := K8.out.2.f2
    go_wp2_with fail
    have x := K8.out.1.put3 r (.slice a5 vs.length c5) (.slice b5 vs.length d5)
    have v0 := x.c0
    have v1 := x.c1
    have v2 := x.c2
    clear z0 z1 z2 x0 x1 x2 y0 y1 y2
    exact bodyPost_ret (by simp [results, Try.results29, go_sem, v0, v1, v2]; try rfl) rfl ⟨_, rfl, st3_below b3.out q8 HQ.out r (.slice a5 vs.length c5) (.slice b5 vs.length d5), by rw [HZ.out, if_neg HC.out]; exact (L3.out.rn.st3 hq8 r (.slice a5 vs.length c5) (.slice b5 vs.length d5)).rs⟩
end Go.Proofs.Ytmhicllhjiglkaa
namespace Go.Proofs.Ytmhicllhjiglkaa
open Go.RowKit
set_option maxRecDepth 100000 in
set_option maxHeartbeats 8000000 in
theorem setr_S0 (a b : Option Addr) (c d : Nat) (r : Bool) (vs : List R) (ss : List (List Int)) (i : Int) (y : R) (site : Int) (w : World) (hv : RV w a vs) (hs : RR w b ss) (hvc : vs.length ≤ c) (hva : a = none → c = 0) (hl1 : vs.length ≤ 100000) (hl2 : ss.length = vs.length) (hl3 : ∀ (m : Nat) (l : List Int), ss[m]? = some l → l.length ≤ 100000) :
    Calls Try.prog 30 #[.agg #[.bool r, .slice a vs.length c, .slice b ss.length d], .int .i64 i, aR y, .int .i64 site] w fun e w' => ∃ v, e = .returned v ∧ Below w.heap.size w w' ∧ Rs w' v (if r = true ∧ 0 ≤ i ∧ i < (vs.length : Int) then ⟨r, vs.set i.toNat y, ss.set i.toNat [site]⟩ else ⟨r, vs, ss⟩) := by
  have cC : ∀ w', Below w.heap.size w w' → _ := fun w' h => copyOr a b c d r vs ss w' (hv.keep h) (hs.keep h) hvc hva hl1 (by omega) hl3
  have cR := fun w => regs_any r a b vs.length c vs.length d w
  rw [Nat.min_self] at cR
  rw [hl2] at cC ⊢
  clear hv hs hvc hva hl3
  obtain ⟨z, hz⟩ : ∃ z, z = (if r = true ∧ 0 ≤ i ∧ i < (vs.length : Int) then (⟨r, vs.set i.toNat y, ss.set i.toNat [site]⟩ : S) else ⟨r, vs, ss⟩) := ⟨_, rfl⟩
  rw [← hz]
  have HZ := hide hz
  clear hz
  go_enter Try.func30, Try.ntmps30
  go_upto_region 1 with fail
  go_name_world W hW
  obtain ⟨q8, h8⟩ : ∃ z9, z9 = w.heap.size + 1 + 1 := ⟨_, rfl⟩
  rw [← h8]
  obtain ⟨q6, h6⟩ : ∃ z9, z9 = w.heap.size + 1 := ⟨_, rfl⟩
  rw [← h6]
  obtain ⟨q4, h4⟩ : ∃ z9, z9 = w.heap.size := ⟨_, rfl⟩
  rw [← h4]
  obtain ⟨B4, B6, B8, F8, u⟩ := boxes_sv w _ _ _ _ _ _ _ W hW
  rw [← h4] at B4
  rw [← h6] at B6
  rw [← h8] at B8 F8
  have HB := hide (And.intro B4 (And.intro B6 (And.intro B8 F8)))
  have HU := hide u
  have HQ : Hid (w.heap.size ≤ q8) := hide (by omega)
  have x0 := B4.c0
  have x1 := B4.c1
  have x2 := B4.c2
  clear hW h8 h6 h4 B4 B6 B8 F8 u
  go_upto_region 2 with (go_at_call 68; refine (cC _ HU.out).mono ?_; rintro e wB ⟨v, rfl, hO, hB⟩; obtain ⟨a5, c5, b5, d5, es, rfl, h1, h2, h3, h4⟩ := own3_form hO; dsimp only at h1 h2 h3 ⊢; clear hO cC; rw [hl2] at h2 ⊢; replace hB := hide hB; replace h1 := hide h1; replace h2 := hide h2; replace h3 := hide h3; replace h4 := hide h4)
  go_name_world W2 hW2
  obtain ⟨k9, hk9⟩ : ∃ z9, z9 = wB.heap.size := ⟨_, rfl⟩
  rw [← hk9]
  obtain ⟨N, hN⟩ : ∃ z9, z9 = W.heap.size := ⟨_, rfl⟩
  have HL : Hid (Lz W2 N k9 48 ⟨r, vs, ss⟩ (.slice a5 vs.length c5) (.slice b5 vs.length d5) es) := by
    rw [← hW2, hk9, hN]
    exact hide (Lz.start (s := ⟨r, vs, ss⟩) h1.out h2.out h3.out h4.out)
  have u2 : Below wB.heap.size wB W2 := hW2 ▸ (Below.refl _ _).alloc (Nat.le_refl _) _
  have bW := hB.out.trans (u2.mono hB.out.size)
  have HK1 : Hid (Bs W2 q4 r (.slice a vs.length c) (.slice b vs.length d) ∧ B6 W2 q6 0 y ∧ Bs W2 q8 false (.slice none 0 0) (.slice none 0 0) ∧ Fs W2 q8 ∧ Below w.heap.size w W2 ∧ q6 < N ∧ q8 < N) := hide ⟨HB.out.1.keep bW, HB.out.2.1.keep bW, HB.out.2.2.1.keep bW, HB.out.2.2.2.of (bW.block _ HB.out.2.2.1.lt), HU.out.trans (bW.mono HU.out.size), by rw [hN]; exact HB.out.2.1.lt, by rw [hN]; exact HB.out.2.2.1.lt⟩
  clear hW2 hk9 hN h1 h2 h3 h4 hB u2 bW HB HU x0 x1 x2
  have x0 := HK1.out.1.c0
  have x1 := HK1.out.1.c1
  have x2 := HK1.out.1.c2
  by_cases hc : r = true ∧ 0 ≤ i ∧ i < (vs.length : Int)
  · obtain ⟨rfl, hc0⟩ := hc
    have hc : (true : Bool) = true ∧ 0 ≤ i ∧ i < (vs.length : Int) := ⟨rfl, hc0⟩
    clear hc0
    obtain ⟨k, rfl⟩ : ∃ k : Nat, i = k := ⟨i.toNat, by omega⟩
    have hk : k < vs.length := by omega
    have hk2 : (k : Int) < vs.length := by omega
    have HC := hide hc
    clear hc
    obtain ⟨g, rfl, -⟩ := HL.out.ov.some9 (by omega)
    obtain ⟨gs, rfl, -⟩ := HL.out.os.some9 (by omega)
    go_upto_region 3 with (go_at_call 51; refine (cR _).mono ?_; rintro e W3 ⟨rfl, hR⟩; replace hR := hide hR; clear cR x0 x1 x2)
    have HK : Hid (Sk 48 w W3 N k9 q6 q8 g gs k true vs ss y c5 d5 es) := by
      have l2 := HL.out.of hR.out
      obtain ⟨_, e1, f1⟩ := l2.ov.some9 (by omega)
      obtain ⟨_, e2, f2⟩ := l2.os.some9 (by omega)
      obtain rfl : g = _ := by simpa using e1
      obtain rfl : gs = _ := by simpa using e2
      exact hide ⟨l2, HK1.out.2.1.keep hR.out, HK1.out.2.2.1.keep hR.out, HK1.out.2.2.2.1.of (hR.out.block _ HK1.out.2.2.1.lt), f1, f2, HK1.out.2.2.2.2.1.trans (hR.out.mono HK1.out.2.2.2.2.1.size), HQ.out, HK1.out.2.2.2.2.2.1, HK1.out.2.2.2.2.2.2, by decide, hk, hl2⟩
    clear HL HK1 hR
    have b1 := HK.out.lz.bx.c1
    have v0 := HK.out.v6.c0
    have v1 := HK.out.v6.c1
    have v2 := HK.out.v6.c2
    have v3 := HK.out.v6.c3
    have v4 := HK.out.v6.c4
    have v5 := HK.out.v6.c5
    have zc := HK.out.x6
    have m0 := zc.c0
    have m1 := zc.c1
    have m2 := zc.c2
    have m3 := zc.c3
    have m4 := zc.c4
    have m5 := zc.c5
    have f0 := HK.out.fg (k * 6)
    have f1 := HK.out.fg (k * 6 + 1)
    have f2 := HK.out.fg (k * 6 + 2)
    have f3 := HK.out.fg (k * 6 + 3)
    have f4 := HK.out.fg (k * 6 + 4)
    have f5 := HK.out.fg (k * 6 + 5)
    go_upto_region 4 with fail
    go_name_world W4 hW4
    have M : Hid (Sm9 w W4 N k9 q6 q8 g gs k true vs ss y c5 d5 es) := by
      have t := HK.out.mid
      unfold st6o at t
      rw [hW4] at t
      exact hide t
    clear hW4 HK zc b1 v0 v1 v2 v3 v4 v5 m0 m1 m2 m3 m4 m5 f0 f1 f2 f3 f4 f5
    have u1 : Below W4.heap.size W4 (W4.alloc (.cells #[.int .i64 site] 3)) := (Below.refl _ _).alloc (Nat.le_refl _) _
    have M2 := hide (M.out.keep u1)
    have b2 := M.out.b9.c2
    obtain ⟨e9, zc⟩ := M2.out.cs
    have zf := M2.out.fs k
    have R0 := hide (M2.out.fin (nb := W4.heap.size) (site := site) (by simp) M.out.b9.lt)
    clear u1
    go_upto_region 5 with fail
    go_name_world u1 hu1
    have R : Hid (Sf9 w u1 N k9 q6 q8 g gs k true vs ss y c5 d5 site) := by
      have t := R0.out
      rw [hu1] at t
      exact hide t
    clear hu1 R0 M M2 b2 zc zf
    have z0 := R.out.b9.c0
    have z1 := R.out.b9.c1
    have z2 := R.out.b9.c2
    have x0 := R.out.b8.c0
    have x1 := R.out.b8.c1
    have x2 := R.out.b8.c2
    have y0 := R.out.f8.f0
    have y1 := R.out.f8.f1
    have y2 := R.out.f8.f2
    go_wp2_with fail
    have x := R.out.b8.put3 true (.slice (some ⟨g, 0, none⟩) vs.length c5) (.slice (some ⟨gs, 0, none⟩) vs.length d5)
    have v0 := x.c0
    have v1 := x.c1
    have v2 := x.c2
    clear z0 z1 z2 x0 x1 x2 y0 y1 y2
    exact bodyPost_ret (by simp [results, Try.results30, go_sem, v0, v1, v2]; try rfl) rfl ⟨_, rfl, st3_below R.out.bel q8 R.out.n8 true (.slice (some ⟨g, 0, none⟩) vs.length c5) (.slice (some ⟨gs, 0, none⟩) vs.length d5), by rw [HZ.out, if_pos HC.out, Int.toNat_natCast]; exact (R.out.rn.st3 R.out.q8N true (.slice (some ⟨g, 0, none⟩) vs.length c5) (.slice (some ⟨gs, 0, none⟩) vs.length d5)).rs⟩
  · have HC := hide hc
    have L3 := HL
    have K8 := hide (And.intro (HK1.out.2.2.1) (HK1.out.2.2.2.1))
    have b3 := hide (HK1.out.2.2.2.2.1)
    have hq8 := HK1.out.2.2.2.2.2.2
    have FIN : ∀ W3, Below W2.heap.size W2 W3 → Hid (Lz W3 N k9 48 ⟨r, vs, ss⟩ (.slice a5 vs.length c5) (.slice b5 vs.length d5) es ∧ Bs W3 q8 false (.slice none 0 0) (.slice none 0 0) ∧ Fs W3 q8 ∧ Below w.heap.size w W3) := fun W3 hR => hide ⟨L3.out.of hR, K8.out.1.keep hR, K8.out.2.of (hR.block _ K8.out.1.lt), b3.out.trans (hR.mono b3.out.size)⟩
    clear HL HK1 L3 K8 b3
    have way : r = false ∨ (r = true ∧ ¬ 0 ≤ i) ∨ (r = true ∧ 0 ≤ i ∧ ¬ i < (vs.length : Int)) := by
      cases r
      · exact .inl rfl
      · by_cases h0 : 0 ≤ i
        · exact .inr (.inr ⟨rfl, h0, fun h => hc ⟨rfl, h0, h⟩⟩)
        · exact .inr (.inl ⟨rfl, h0⟩)
    clear hc
    rcases way with rfl | ⟨rfl, h0⟩ | ⟨rfl, h0, h1⟩
    · clear cR
      go_upto_region 5 with fail
      have F := FIN _ (Below.refl _ _)
      clear FIN
      have z0 := F.out.1.bx.c0
      have z1 := F.out.1.bx.c1
      have z2 := F.out.1.bx.c2
      have x0 := F.out.2.1.c0
      have x1 := F.out.2.1.c1
      have x2 := F.out.2.1.c2
      have y0 := F.out.2.2.1.f0
      have y1 := F.out.2.2.1.f1
      have y2 := F.out.2.2.1.f2
      go_wp2_with fail
      have x := fun (rr : Bool) => F.out.2.1.put3 rr (.slice a5 vs.length c5) (.slice b5 vs.length d5)
      have v0 := (x false).c0
      have v1 := (x false).c1
      have v2 := (x false).c2
      clear z0 z1 z2 x0 x1 x2 y0 y1 y2
      exact bodyPost_ret (by simp [results, Try.results30, go_sem, v0, v1, v2]; try rfl) rfl ⟨_, rfl, st3_below F.out.2.2.2 q8 HQ.out false (.slice a5 vs.length c5) (.slice b5 vs.length d5), by rw [HZ.out, if_neg HC.out]; exact (F.out.1.rn.st3 hq8 false (.slice a5 vs.length c5) (.slice b5 vs.length d5)).rs⟩
    · clear cR
      go_upto_region 5 with fail
      have F := FIN _ (Below.refl _ _)
      clear FIN
      have z0 := F.out.1.bx.c0
      have z1 := F.out.1.bx.c1
      have z2 := F.out.1.bx.c2
      have x0 := F.out.2.1.c0
      have x1 := F.out.2.1.c1
      have x2 := F.out.2.1.c2
      have y0 := F.out.2.2.1.f0
      have y1 := F.out.2.2.1.f1
      have y2 := F.out.2.2.1.f2
      go_wp2_with fail
      have x := fun (rr : Bool) => F.out.2.1.put3 rr (.slice a5 vs.length c5) (.slice b5 vs.length d5)
      have v0 := (x true).c0
      have v1 := (x true).c1
      have v2 := (x true).c2
      clear z0 z1 z2 x0 x1 x2 y0 y1 y2
      exact bodyPost_ret (by simp [results, Try.results30, go_sem, v0, v1, v2]; try rfl) rfl ⟨_, rfl, st3_below F.out.2.2.2 q8 HQ.out true (.slice a5 vs.length c5) (.slice b5 vs.length d5), by rw [HZ.out, if_neg HC.out]; exact (F.out.1.rn.st3 hq8 true (.slice a5 vs.length c5) (.slice b5 vs.length d5)).rs⟩
    · go_upto_region 5 with (go_at_call 51; refine (cR _).mono ?_; rintro e W3 ⟨rfl, hR⟩; have F := FIN _ hR; clear cR x0 x1 x2 hR)
      clear FIN
      have z0 := F.out.1.bx.c0
      have z1 := F.out.1.bx.c1
      have z2 := F.out.1.bx.c2
      have x0 := F.out.2.1.c0
      have x1 := F.out.2.1.c1
      have x2 := F.out.2.1.c2
      have y0 := F.out.2.2.1.f0
      have y1 := F.out.2.2.1.f1
      have y2 := F.out.2.2.1.f2
      go_wp2_with fail
      have x := fun (rr : Bool) => F.out.2.1.put3 rr (.slice a5 vs.length c5) (.slice b5 vs.length d5)
      have v0 := (x true).c0
      have v1 := (x true).c1
      have v2 := (x true).c2
      clear z0 z1 z2 x0 x1 x2 y0 y1 y2
      exact bodyPost_ret (by simp [results, Try.results30, go_sem, v0, v1, v2]; try rfl) rfl ⟨_, rfl, st3_below F.out.2.2.2 q8 HQ.out true (.slice a5 vs.length c5) (.slice b5 vs.length d5), by rw [HZ.out, if_neg HC.out]; exact (F.out.1.rn.st3 hq8 true (.slice a5 vs.length c5) (.slice b5 vs.length d5)).rs⟩
end Go.Proofs.Ytmhicllhjiglkaa
namespace Go.Proofs.Ytmhicllhjiglkaa
open Go.RowKit
set_option maxRecDepth 100000 in
set_option maxHeartbeats 16000000 in
theorem allr_V (x : V) (k1 k2 : Bool) (w : World) : Calls Try.prog 116 #[.agg #[.int .i64 (up x.s), .bool x.k, .int .i64 x.n, .int .i64 x.lo, .int .i64 x.hi, .int .i64 (up x.p)], .bool k1, .bool k2] w fun e w' => e = .returned (.tuple #[.agg #[.int .i64 (up (someV x (k1 && k2)).1.s), .bool (someV x (k1 && k2)).1.k, .int .i64 (someV x (k1 && k2)).1.n, .int .i64 (someV x (k1 && k2)).1.lo, .int .i64 (someV x (k1 && k2)).1.hi, .int .i64 (up (someV x (k1 && k2)).1.p)], .bool (someV x (k1 && k2)).2]) ∧ Below w.heap.size w w' := by
  by_cases hs : x.s = 0
  · have HR : Hid (someV x (k1 && k2) = (zeroV, false)) := by unfold Hid someV; rw [if_neg (fun t => t.2.1 hs)]
    generalize someV x (k1 && k2) = r at *
    have d1 : (up x.s == 0) = true := by rw [show (0 : Int) = up 0 from rfl, up_beq, beq_iff_eq]; exact hs
    clear hs
    have x0 : Br ((w.alloc (.cells #[.int .i64 (up x.s), .bool x.k, .int .i64 x.n, .int .i64 x.lo, .int .i64 x.hi, .int .i64 (up x.p)] 48)).alloc (.cells #[.int .i64 0, .bool false, .int .i64 0, .int .i64 0, .int .i64 0, .int .i64 0] 48)) (w.heap.size) (up x.s) x.k x.n x.lo x.hi (up x.p) := ((Br.new w (up x.s) x.k x.n x.lo x.hi (up x.p) 48)).keep ((Below.refl _ _).alloc (Nat.le_refl _) _)
    have x1 : Br ((w.alloc (.cells #[.int .i64 (up x.s), .bool x.k, .int .i64 x.n, .int .i64 x.lo, .int .i64 x.hi, .int .i64 (up x.p)] 48)).alloc (.cells #[.int .i64 0, .bool false, .int .i64 0, .int .i64 0, .int .i64 0, .int .i64 0] 48)) (w.heap.size + 1) 0 false 0 0 0 0 := (by simpa using Br.new (w.alloc (.cells #[.int .i64 (up x.s), .bool x.k, .int .i64 x.n, .int .i64 x.lo, .int .i64 x.hi, .int .i64 (up x.p)] 48)) 0 false 0 0 0 0 48 : Br ((w.alloc (.cells #[.int .i64 (up x.s), .bool x.k, .int .i64 x.n, .int .i64 x.lo, .int .i64 x.hi, .int .i64 (up x.p)] 48)).alloc (.cells #[.int .i64 0, .bool false, .int .i64 0, .int .i64 0, .int .i64 0, .int .i64 0] 48)) (w.heap.size + 1) 0 false 0 0 0 0)
    have xf : Fz ((w.alloc (.cells #[.int .i64 (up x.s), .bool x.k, .int .i64 x.n, .int .i64 x.lo, .int .i64 x.hi, .int .i64 (up x.p)] 48)).alloc (.cells #[.int .i64 0, .bool false, .int .i64 0, .int .i64 0, .int .i64 0, .int .i64 0] 48)) (w.heap.size + 1) := by simpa using Fz.new (w.alloc (.cells #[.int .i64 (up x.s), .bool x.k, .int .i64 x.n, .int .i64 x.lo, .int .i64 x.hi, .int .i64 (up x.p)] 48)) 0 false 0 0 0 0 48
    have xb : Below w.heap.size w ((w.alloc (.cells #[.int .i64 (up x.s), .bool x.k, .int .i64 x.n, .int .i64 x.lo, .int .i64 x.hi, .int .i64 (up x.p)] 48)).alloc (.cells #[.int .i64 0, .bool false, .int .i64 0, .int .i64 0, .int .i64 0, .int .i64 0] 48)) := (by repeat (first | exact Below.refl _ _ | (refine Below.drew ?_) | (refine below_drewN ?_ _) | (refine Below.setCell ?_ (by first | omega | (simp; done) | (simp; omega)) _) | (refine Below.alloc ?_ (by first | omega | (simp; done) | (simp; omega)) _) | (refine Below.trans ?_ (Below.mono (by assumption) (by first | omega | (simp; done) | (simp; omega))))))
    go_enter Try.func116, Try.ntmps116
    go_upto_region 1 with fail
    go_name_world W hW
    rw [hW] at x0 x1 xf xb
    clear hW
    obtain ⟨N, hN⟩ : ∃ N, N = w.heap.size := ⟨_, rfl⟩
    rw [← hN] at x0 x1 xf xb ⊢
    have HN : Hid (N = w.heap.size) := hN
    clear hN
    have HA := hide (And.intro x0 (And.intro x1 (And.intro xf xb)))
    clear x0 x1 xf xb
    have a0 := HA.out.1.c0
    have a1 := HA.out.1.c1
    have a2 := HA.out.1.c2
    have a3 := HA.out.1.c3
    have a4 := HA.out.1.c4
    have a5 := HA.out.1.c5
    have b0 := HA.out.2.1.c0
    have b1 := HA.out.2.1.c1
    have b2 := HA.out.2.1.c2
    have b3 := HA.out.2.1.c3
    have b4 := HA.out.2.1.c4
    have b5 := HA.out.2.1.c5
    have f0 := HA.out.2.2.1.f0
    have f1 := HA.out.2.2.1.f1
    have f2 := HA.out.2.2.1.f2
    have f3 := HA.out.2.2.1.f3
    have f4 := HA.out.2.2.1.f4
    have f5 := HA.out.2.2.1.f5
    go_wp2_with fail
    have zw := HA.out.2.1.wrote 0 false 0 0 0 0
    have hZ := st6_below HA.out.2.2.2 (N + 1) (Nat.le_succ _) (.int .i64 0) (.bool false) (.int .i64 0) (.int .i64 0) (.int .i64 0) (.int .i64 0)
    clear HA a0 a1 a2 a3 a4 a5 b0 b1 b2 b3 b4 b5 f0 f1 f2 f3 f4 f5
    have a0 := zw.c0
    have a1 := zw.c1
    have a2 := zw.c2
    have a3 := zw.c3
    have a4 := zw.c4
    have a5 := zw.c5
    clear zw
    refine bodyPost_ret (by simp [results, Try.results116, go_sem, *]; try rfl) rfl ⟨?_, by rw [← HN.out]; exact hZ⟩
    rw [HR.out] <;> rfl
  · by_cases hp : x.p = 0
    · have HR : Hid (someV x (k1 && k2) = (zeroV, false)) := by unfold Hid someV; rw [if_neg (fun t => t.2.2 hp)]
      generalize someV x (k1 && k2) = r at *
      have d1 : (up x.s == 0) = false := by rw [show (0 : Int) = up 0 from rfl, up_beq, beq_eq_false_iff_ne]; exact hs
      have d2 : (up x.p == 0) = true := by rw [show (0 : Int) = up 0 from rfl, up_beq, beq_iff_eq]; exact hp
      clear hs hp
      have x0 : Br ((w.alloc (.cells #[.int .i64 (up x.s), .bool x.k, .int .i64 x.n, .int .i64 x.lo, .int .i64 x.hi, .int .i64 (up x.p)] 48)).alloc (.cells #[.int .i64 0, .bool false, .int .i64 0, .int .i64 0, .int .i64 0, .int .i64 0] 48)) (w.heap.size) (up x.s) x.k x.n x.lo x.hi (up x.p) := ((Br.new w (up x.s) x.k x.n x.lo x.hi (up x.p) 48)).keep ((Below.refl _ _).alloc (Nat.le_refl _) _)
      have x1 : Br ((w.alloc (.cells #[.int .i64 (up x.s), .bool x.k, .int .i64 x.n, .int .i64 x.lo, .int .i64 x.hi, .int .i64 (up x.p)] 48)).alloc (.cells #[.int .i64 0, .bool false, .int .i64 0, .int .i64 0, .int .i64 0, .int .i64 0] 48)) (w.heap.size + 1) 0 false 0 0 0 0 := (by simpa using Br.new (w.alloc (.cells #[.int .i64 (up x.s), .bool x.k, .int .i64 x.n, .int .i64 x.lo, .int .i64 x.hi, .int .i64 (up x.p)] 48)) 0 false 0 0 0 0 48 : Br ((w.alloc (.cells #[.int .i64 (up x.s), .bool x.k, .int .i64 x.n, .int .i64 x.lo, .int .i64 x.hi, .int .i64 (up x.p)] 48)).alloc (.cells #[.int .i64 0, .bool false, .int .i64 0, .int .i64 0, .int .i64 0, .int .i64 0] 48)) (w.heap.size + 1) 0 false 0 0 0 0)
      have xf : Fz ((w.alloc (.cells #[.int .i64 (up x.s), .bool x.k, .int .i64 x.n, .int .i64 x.lo, .int .i64 x.hi, .int .i64 (up x.p)] 48)).alloc (.cells #[.int .i64 0, .bool false, .int .i64 0, .int .i64 0, .int .i64 0, .int .i64 0] 48)) (w.heap.size + 1) := by simpa using Fz.new (w.alloc (.cells #[.int .i64 (up x.s), .bool x.k, .int .i64 x.n, .int .i64 x.lo, .int .i64 x.hi, .int .i64 (up x.p)] 48)) 0 false 0 0 0 0 48
      have xb : Below w.heap.size w ((w.alloc (.cells #[.int .i64 (up x.s), .bool x.k, .int .i64 x.n, .int .i64 x.lo, .int .i64 x.hi, .int .i64 (up x.p)] 48)).alloc (.cells #[.int .i64 0, .bool false, .int .i64 0, .int .i64 0, .int .i64 0, .int .i64 0] 48)) := (by repeat (first | exact Below.refl _ _ | (refine Below.drew ?_) | (refine below_drewN ?_ _) | (refine Below.setCell ?_ (by first | omega | (simp; done) | (simp; omega)) _) | (refine Below.alloc ?_ (by first | omega | (simp; done) | (simp; omega)) _) | (refine Below.trans ?_ (Below.mono (by assumption) (by first | omega | (simp; done) | (simp; omega))))))
      go_enter Try.func116, Try.ntmps116
      go_upto_region 1 with fail
      go_name_world W hW
      rw [hW] at x0 x1 xf xb
      clear hW
      obtain ⟨N, hN⟩ : ∃ N, N = w.heap.size := ⟨_, rfl⟩
      rw [← hN] at x0 x1 xf xb ⊢
      have HN : Hid (N = w.heap.size) := hN
      clear hN
      have HA := hide (And.intro x0 (And.intro x1 (And.intro xf xb)))
      clear x0 x1 xf xb
      have a0 := HA.out.1.c0
      have a1 := HA.out.1.c1
      have a2 := HA.out.1.c2
      have a3 := HA.out.1.c3
      have a4 := HA.out.1.c4
      have a5 := HA.out.1.c5
      have b0 := HA.out.2.1.c0
      have b1 := HA.out.2.1.c1
      have b2 := HA.out.2.1.c2
      have b3 := HA.out.2.1.c3
      have b4 := HA.out.2.1.c4
      have b5 := HA.out.2.1.c5
      have f0 := HA.out.2.2.1.f0
      have f1 := HA.out.2.2.1.f1
      have f2 := HA.out.2.2.1.f2
      have f3 := HA.out.2.2.1.f3
      have f4 := HA.out.2.2.1.f4
      have f5 := HA.out.2.2.1.f5
      go_wp2_with fail
      have zw := HA.out.2.1.wrote 0 false 0 0 0 0
      have hZ := st6_below HA.out.2.2.2 (N + 1) (Nat.le_succ _) (.int .i64 0) (.bool false) (.int .i64 0) (.int .i64 0) (.int .i64 0) (.int .i64 0)
      clear HA a0 a1 a2 a3 a4 a5 b0 b1 b2 b3 b4 b5 f0 f1 f2 f3 f4 f5
      have a0 := zw.c0
      have a1 := zw.c1
      have a2 := zw.c2
      have a3 := zw.c3
      have a4 := zw.c4
      have a5 := zw.c5
      clear zw
      refine bodyPost_ret (by simp [results, Try.results116, go_sem, *]; try rfl) rfl ⟨?_, by rw [← HN.out]; exact hZ⟩
      rw [HR.out] <;> rfl
    · cases k1
      · have HR : Hid (someV x (false && k2) = (zeroV, false)) := by unfold Hid someV; rw [if_neg (by simp)]
        generalize someV x (false && k2) = r at *
        have d1 : (up x.s == 0) = false := by rw [show (0 : Int) = up 0 from rfl, up_beq, beq_eq_false_iff_ne]; exact hs
        have d2 : (up x.p == 0) = false := by rw [show (0 : Int) = up 0 from rfl, up_beq, beq_eq_false_iff_ne]; exact hp
        clear hs hp
        have x0 : Br ((w.alloc (.cells #[.int .i64 (up x.s), .bool x.k, .int .i64 x.n, .int .i64 x.lo, .int .i64 x.hi, .int .i64 (up x.p)] 48)).alloc (.cells #[.int .i64 0, .bool false, .int .i64 0, .int .i64 0, .int .i64 0, .int .i64 0] 48)) (w.heap.size) (up x.s) x.k x.n x.lo x.hi (up x.p) := ((Br.new w (up x.s) x.k x.n x.lo x.hi (up x.p) 48)).keep ((Below.refl _ _).alloc (Nat.le_refl _) _)
        have x1 : Br ((w.alloc (.cells #[.int .i64 (up x.s), .bool x.k, .int .i64 x.n, .int .i64 x.lo, .int .i64 x.hi, .int .i64 (up x.p)] 48)).alloc (.cells #[.int .i64 0, .bool false, .int .i64 0, .int .i64 0, .int .i64 0, .int .i64 0] 48)) (w.heap.size + 1) 0 false 0 0 0 0 := (by simpa using Br.new (w.alloc (.cells #[.int .i64 (up x.s), .bool x.k, .int .i64 x.n, .int .i64 x.lo, .int .i64 x.hi, .int .i64 (up x.p)] 48)) 0 false 0 0 0 0 48 : Br ((w.alloc (.cells #[.int .i64 (up x.s), .bool x.k, .int .i64 x.n, .int .i64 x.lo, .int .i64 x.hi, .int .i64 (up x.p)] 48)).alloc (.cells #[.int .i64 0, .bool false, .int .i64 0, .int .i64 0, .int .i64 0, .int .i64 0] 48)) (w.heap.size + 1) 0 false 0 0 0 0)
        have xf : Fz ((w.alloc (.cells #[.int .i64 (up x.s), .bool x.k, .int .i64 x.n, .int .i64 x.lo, .int .i64 x.hi, .int .i64 (up x.p)] 48)).alloc (.cells #[.int .i64 0, .bool false, .int .i64 0, .int .i64 0, .int .i64 0, .int .i64 0] 48)) (w.heap.size + 1) := by simpa using Fz.new (w.alloc (.cells #[.int .i64 (up x.s), .bool x.k, .int .i64 x.n, .int .i64 x.lo, .int .i64 x.hi, .int .i64 (up x.p)] 48)) 0 false 0 0 0 0 48
        have xb : Below w.heap.size w ((w.alloc (.cells #[.int .i64 (up x.s), .bool x.k, .int .i64 x.n, .int .i64 x.lo, .int .i64 x.hi, .int .i64 (up x.p)] 48)).alloc (.cells #[.int .i64 0, .bool false, .int .i64 0, .int .i64 0, .int .i64 0, .int .i64 0] 48)) := (by repeat (first | exact Below.refl _ _ | (refine Below.drew ?_) | (refine below_drewN ?_ _) | (refine Below.setCell ?_ (by first | omega | (simp; done) | (simp; omega)) _) | (refine Below.alloc ?_ (by first | omega | (simp; done) | (simp; omega)) _) | (refine Below.trans ?_ (Below.mono (by assumption) (by first | omega | (simp; done) | (simp; omega))))))
        go_enter Try.func116, Try.ntmps116
        go_upto_region 1 with fail
        go_name_world W hW
        rw [hW] at x0 x1 xf xb
        clear hW
        obtain ⟨N, hN⟩ : ∃ N, N = w.heap.size := ⟨_, rfl⟩
        rw [← hN] at x0 x1 xf xb ⊢
        have HN : Hid (N = w.heap.size) := hN
        clear hN
        have HA := hide (And.intro x0 (And.intro x1 (And.intro xf xb)))
        clear x0 x1 xf xb
        have a0 := HA.out.1.c0
        have a1 := HA.out.1.c1
        have a2 := HA.out.1.c2
        have a3 := HA.out.1.c3
        have a4 := HA.out.1.c4
        have a5 := HA.out.1.c5
        have b0 := HA.out.2.1.c0
        have b1 := HA.out.2.1.c1
        have b2 := HA.out.2.1.c2
        have b3 := HA.out.2.1.c3
        have b4 := HA.out.2.1.c4
        have b5 := HA.out.2.1.c5
        have f0 := HA.out.2.2.1.f0
        have f1 := HA.out.2.2.1.f1
        have f2 := HA.out.2.2.1.f2
        have f3 := HA.out.2.2.1.f3
        have f4 := HA.out.2.2.1.f4
        have f5 := HA.out.2.2.1.f5
        go_wp2_with fail
        have zw := HA.out.2.1.wrote 0 false 0 0 0 0
        have hZ := st6_below HA.out.2.2.2 (N + 1) (Nat.le_succ _) (.int .i64 0) (.bool false) (.int .i64 0) (.int .i64 0) (.int .i64 0) (.int .i64 0)
        clear HA a0 a1 a2 a3 a4 a5 b0 b1 b2 b3 b4 b5 f0 f1 f2 f3 f4 f5
        have a0 := zw.c0
        have a1 := zw.c1
        have a2 := zw.c2
        have a3 := zw.c3
        have a4 := zw.c4
        have a5 := zw.c5
        clear zw
        refine bodyPost_ret (by simp [results, Try.results116, go_sem, *]; try rfl) rfl ⟨?_, by rw [← HN.out]; exact hZ⟩
        rw [HR.out] <;> rfl
      · cases k2
        · have HR : Hid (someV x (true && false) = (zeroV, false)) := by unfold Hid someV; rw [if_neg (by simp)]
          generalize someV x (true && false) = r at *
          have d1 : (up x.s == 0) = false := by rw [show (0 : Int) = up 0 from rfl, up_beq, beq_eq_false_iff_ne]; exact hs
          have d2 : (up x.p == 0) = false := by rw [show (0 : Int) = up 0 from rfl, up_beq, beq_eq_false_iff_ne]; exact hp
          clear hs hp
          have x0 : Br ((w.alloc (.cells #[.int .i64 (up x.s), .bool x.k, .int .i64 x.n, .int .i64 x.lo, .int .i64 x.hi, .int .i64 (up x.p)] 48)).alloc (.cells #[.int .i64 0, .bool false, .int .i64 0, .int .i64 0, .int .i64 0, .int .i64 0] 48)) (w.heap.size) (up x.s) x.k x.n x.lo x.hi (up x.p) := ((Br.new w (up x.s) x.k x.n x.lo x.hi (up x.p) 48)).keep ((Below.refl _ _).alloc (Nat.le_refl _) _)
          have x1 : Br ((w.alloc (.cells #[.int .i64 (up x.s), .bool x.k, .int .i64 x.n, .int .i64 x.lo, .int .i64 x.hi, .int .i64 (up x.p)] 48)).alloc (.cells #[.int .i64 0, .bool false, .int .i64 0, .int .i64 0, .int .i64 0, .int .i64 0] 48)) (w.heap.size + 1) 0 false 0 0 0 0 := (by simpa using Br.new (w.alloc (.cells #[.int .i64 (up x.s), .bool x.k, .int .i64 x.n, .int .i64 x.lo, .int .i64 x.hi, .int .i64 (up x.p)] 48)) 0 false 0 0 0 0 48 : Br ((w.alloc (.cells #[.int .i64 (up x.s), .bool x.k, .int .i64 x.n, .int .i64 x.lo, .int .i64 x.hi, .int .i64 (up x.p)] 48)).alloc (.cells #[.int .i64 0, .bool false, .int .i64 0, .int .i64 0, .int .i64 0, .int .i64 0] 48)) (w.heap.size + 1) 0 false 0 0 0 0)
          have xf : Fz ((w.alloc (.cells #[.int .i64 (up x.s), .bool x.k, .int .i64 x.n, .int .i64 x.lo, .int .i64 x.hi, .int .i64 (up x.p)] 48)).alloc (.cells #[.int .i64 0, .bool false, .int .i64 0, .int .i64 0, .int .i64 0, .int .i64 0] 48)) (w.heap.size + 1) := by simpa using Fz.new (w.alloc (.cells #[.int .i64 (up x.s), .bool x.k, .int .i64 x.n, .int .i64 x.lo, .int .i64 x.hi, .int .i64 (up x.p)] 48)) 0 false 0 0 0 0 48
          have xb : Below w.heap.size w ((w.alloc (.cells #[.int .i64 (up x.s), .bool x.k, .int .i64 x.n, .int .i64 x.lo, .int .i64 x.hi, .int .i64 (up x.p)] 48)).alloc (.cells #[.int .i64 0, .bool false, .int .i64 0, .int .i64 0, .int .i64 0, .int .i64 0] 48)) := (by repeat (first | exact Below.refl _ _ | (refine Below.drew ?_) | (refine below_drewN ?_ _) | (refine Below.setCell ?_ (by first | omega | (simp; done) | (simp; omega)) _) | (refine Below.alloc ?_ (by first | omega | (simp; done) | (simp; omega)) _) | (refine Below.trans ?_ (Below.mono (by assumption) (by first | omega | (simp; done) | (simp; omega))))))
          go_enter Try.func116, Try.ntmps116
          go_upto_region 1 with fail
          go_name_world W hW
          rw [hW] at x0 x1 xf xb
          clear hW
          obtain ⟨N, hN⟩ : ∃ N, N = w.heap.size := ⟨_, rfl⟩
          rw [← hN] at x0 x1 xf xb ⊢
          have HN : Hid (N = w.heap.size) := hN
          clear hN
          have HA := hide (And.intro x0 (And.intro x1 (And.intro xf xb)))
          clear x0 x1 xf xb
          have a0 := HA.out.1.c0
          have a1 := HA.out.1.c1
          have a2 := HA.out.1.c2
          have a3 := HA.out.1.c3
          have a4 := HA.out.1.c4
          have a5 := HA.out.1.c5
          have b0 := HA.out.2.1.c0
          have b1 := HA.out.2.1.c1
          have b2 := HA.out.2.1.c2
          have b3 := HA.out.2.1.c3
          have b4 := HA.out.2.1.c4
          have b5 := HA.out.2.1.c5
          have f0 := HA.out.2.2.1.f0
          have f1 := HA.out.2.2.1.f1
          have f2 := HA.out.2.2.1.f2
          have f3 := HA.out.2.2.1.f3
          have f4 := HA.out.2.2.1.f4
          have f5 := HA.out.2.2.1.f5
          go_wp2_with fail
          have zw := HA.out.2.1.wrote 0 false 0 0 0 0
          have hZ := st6_below HA.out.2.2.2 (N + 1) (Nat.le_succ _) (.int .i64 0) (.bool false) (.int .i64 0) (.int .i64 0) (.int .i64 0) (.int .i64 0)
          clear HA a0 a1 a2 a3 a4 a5 b0 b1 b2 b3 b4 b5 f0 f1 f2 f3 f4 f5
          have a0 := zw.c0
          have a1 := zw.c1
          have a2 := zw.c2
          have a3 := zw.c3
          have a4 := zw.c4
          have a5 := zw.c5
          clear zw
          refine bodyPost_ret (by simp [results, Try.results116, go_sem, *]; try rfl) rfl ⟨?_, by rw [← HN.out]; exact hZ⟩
          rw [HR.out] <;> rfl
        · have HR : Hid (someV x (true && true) = (x, true)) := by unfold Hid someV; rw [if_pos ⟨rfl, hs, hp⟩]
          generalize someV x (true && true) = r at *
          have d1 : (up x.s == 0) = false := by rw [show (0 : Int) = up 0 from rfl, up_beq, beq_eq_false_iff_ne]; exact hs
          have d2 : (up x.p == 0) = false := by rw [show (0 : Int) = up 0 from rfl, up_beq, beq_eq_false_iff_ne]; exact hp
          clear hs hp
          have x0 : Br ((w.alloc (.cells #[.int .i64 (up x.s), .bool x.k, .int .i64 x.n, .int .i64 x.lo, .int .i64 x.hi, .int .i64 (up x.p)] 48)).alloc (.cells #[.int .i64 0, .bool false, .int .i64 0, .int .i64 0, .int .i64 0, .int .i64 0] 48)) (w.heap.size) (up x.s) x.k x.n x.lo x.hi (up x.p) := ((Br.new w (up x.s) x.k x.n x.lo x.hi (up x.p) 48)).keep ((Below.refl _ _).alloc (Nat.le_refl _) _)
          have x1 : Br ((w.alloc (.cells #[.int .i64 (up x.s), .bool x.k, .int .i64 x.n, .int .i64 x.lo, .int .i64 x.hi, .int .i64 (up x.p)] 48)).alloc (.cells #[.int .i64 0, .bool false, .int .i64 0, .int .i64 0, .int .i64 0, .int .i64 0] 48)) (w.heap.size + 1) 0 false 0 0 0 0 := (by simpa using Br.new (w.alloc (.cells #[.int .i64 (up x.s), .bool x.k, .int .i64 x.n, .int .i64 x.lo, .int .i64 x.hi, .int .i64 (up x.p)] 48)) 0 false 0 0 0 0 48 : Br ((w.alloc (.cells #[.int .i64 (up x.s), .bool x.k, .int .i64 x.n, .int .i64 x.lo, .int .i64 x.hi, .int .i64 (up x.p)] 48)).alloc (.cells #[.int .i64 0, .bool false, .int .i64 0, .int .i64 0, .int .i64 0, .int .i64 0] 48)) (w.heap.size + 1) 0 false 0 0 0 0)
          have xf : Fz ((w.alloc (.cells #[.int .i64 (up x.s), .bool x.k, .int .i64 x.n, .int .i64 x.lo, .int .i64 x.hi, .int .i64 (up x.p)] 48)).alloc (.cells #[.int .i64 0, .bool false, .int .i64 0, .int .i64 0, .int .i64 0, .int .i64 0] 48)) (w.heap.size + 1) := by simpa using Fz.new (w.alloc (.cells #[.int .i64 (up x.s), .bool x.k, .int .i64 x.n, .int .i64 x.lo, .int .i64 x.hi, .int .i64 (up x.p)] 48)) 0 false 0 0 0 0 48
          have xb : Below w.heap.size w ((w.alloc (.cells #[.int .i64 (up x.s), .bool x.k, .int .i64 x.n, .int .i64 x.lo, .int .i64 x.hi, .int .i64 (up x.p)] 48)).alloc (.cells #[.int .i64 0, .bool false, .int .i64 0, .int .i64 0, .int .i64 0, .int .i64 0] 48)) := (by repeat (first | exact Below.refl _ _ | (refine Below.drew ?_) | (refine below_drewN ?_ _) | (refine Below.setCell ?_ (by first | omega | (simp; done) | (simp; omega)) _) | (refine Below.alloc ?_ (by first | omega | (simp; done) | (simp; omega)) _) | (refine Below.trans ?_ (Below.mono (by assumption) (by first | omega | (simp; done) | (simp; omega))))))
          go_enter Try.func116, Try.ntmps116
          go_upto_region 1 with fail
          go_name_world W hW
          rw [hW] at x0 x1 xf xb
          clear hW
          obtain ⟨N, hN⟩ : ∃ N, N = w.heap.size := ⟨_, rfl⟩
          rw [← hN] at x0 x1 xf xb ⊢
          have HN : Hid (N = w.heap.size) := hN
          clear hN
          have HA := hide (And.intro x0 (And.intro x1 (And.intro xf xb)))
          clear x0 x1 xf xb
          have a0 := HA.out.1.c0
          have a1 := HA.out.1.c1
          have a2 := HA.out.1.c2
          have a3 := HA.out.1.c3
          have a4 := HA.out.1.c4
          have a5 := HA.out.1.c5
          have b0 := HA.out.2.1.c0
          have b1 := HA.out.2.1.c1
          have b2 := HA.out.2.1.c2
          have b3 := HA.out.2.1.c3
          have b4 := HA.out.2.1.c4
          have b5 := HA.out.2.1.c5
          have f0 := HA.out.2.2.1.f0
          have f1 := HA.out.2.2.1.f1
          have f2 := HA.out.2.2.1.f2
          have f3 := HA.out.2.2.1.f3
          have f4 := HA.out.2.2.1.f4
          have f5 := HA.out.2.2.1.f5
          go_wp2_with fail
          have zw := HA.out.2.1.wrote (up x.s) x.k x.n x.lo x.hi (up x.p)
          have hZ := st6_below HA.out.2.2.2 (N + 1) (Nat.le_succ _) (.int .i64 (up x.s)) (.bool x.k) (.int .i64 x.n) (.int .i64 x.lo) (.int .i64 x.hi) (.int .i64 (up x.p))
          clear HA a0 a1 a2 a3 a4 a5 b0 b1 b2 b3 b4 b5 f0 f1 f2 f3 f4 f5
          have a0 := zw.c0
          have a1 := zw.c1
          have a2 := zw.c2
          have a3 := zw.c3
          have a4 := zw.c4
          have a5 := zw.c5
          clear zw
          refine bodyPost_ret (by simp [results, Try.results116, go_sem, *]; try rfl) rfl ⟨?_, by rw [← HN.out]; exact hZ⟩
          rw [HR.out] <;> rfl
set_option maxHeartbeats 8000000 in
theorem branchr_no (al ah : Int) (w : World) : Calls Try.prog 115 #[.agg #[.int .i64 al, .int .i64 ah], .bool false] w fun e w' => e = .returned (.tuple #[.agg #[.int .i64 ((brF (al, ah)).1).1, .int .i64 ((brF (al, ah)).1).2], .bool (brF (al, ah)).2]) ∧ Below w.heap.size w w' := by
  by_cases h : al ≤ 0 ∧ 0 ≤ ah
  · have HE : Hid (brF (al, ah) = ((0, 0), true)) := by unfold Hid brF; rw [if_pos h]
    have hh : hasR al ah 0 = true := by unfold hasR; rw [Bool.and_eq_true, decide_eq_true_iff, decide_eq_true_iff]; exact h
    clear h
    go_enter Try.func115, Try.ntmps115
    go_wp2_with (go_at_call 126; refine (nhasr_any _ _ _ _).mono ?_; rintro e w1 ⟨rfl, o1, rfl⟩)
    all_goals (refine bodyPost_ret (by simp [results, Try.results115, go_sem]; try rfl) rfl ⟨?_, (by repeat (first | exact Below.refl _ _ | (refine Below.drew ?_) | (refine below_drewN ?_ _) | (refine Below.setCell ?_ (by first | omega | (simp; done) | (simp; omega)) _) | (refine Below.alloc ?_ (by first | omega | (simp; done) | (simp; omega)) _) | (refine Below.trans ?_ (Below.mono (by assumption) (by first | omega | (simp; done) | (simp; omega))))))⟩; rw [HE.out])
  · have HE : Hid (brF (al, ah) = ((0, 0), false)) := by unfold Hid brF; rw [if_neg h]
    have hh : hasR al ah 0 = false := by unfold hasR; rw [Bool.and_eq_false_iff, decide_eq_false_iff_not, decide_eq_false_iff_not]; omega
    clear h
    go_enter Try.func115, Try.ntmps115
    go_wp2_with (go_at_call 126; refine (nhasr_any _ _ _ _).mono ?_; rintro e w1 ⟨rfl, o1, rfl⟩)
    all_goals (refine bodyPost_ret (by simp [results, Try.results115, go_sem]; try rfl) rfl ⟨?_, (by repeat (first | exact Below.refl _ _ | (refine Below.drew ?_) | (refine below_drewN ?_ _) | (refine Below.setCell ?_ (by first | omega | (simp; done) | (simp; omega)) _) | (refine Below.alloc ?_ (by first | omega | (simp; done) | (simp; omega)) _) | (refine Below.trans ?_ (Below.mono (by assumption) (by first | omega | (simp; done) | (simp; omega))))))⟩; rw [HE.out])
set_option maxHeartbeats 8000000 in
theorem branchr_yes (al ah : Int) (w : World) : Calls Try.prog 115 #[.agg #[.int .i64 al, .int .i64 ah], .bool true] w fun e w' => e = .returned (.tuple #[.agg #[.int .i64 ((brT (al, ah)).1).1, .int .i64 ((brT (al, ah)).1).2], .bool (brT (al, ah)).2]) ∧ Below w.heap.size w w' := by
  by_cases h1 : al = 0
  · subst h1
    by_cases h2 : ah = 0
    · subst h2
      go_enter Try.func115, Try.ntmps115
      go_wp2
      all_goals (refine bodyPost_ret (by simp [results, Try.results115, go_sem]; try rfl) rfl ⟨?_, (by repeat (first | exact Below.refl _ _ | (refine Below.drew ?_) | (refine below_drewN ?_ _) | (refine Below.setCell ?_ (by first | omega | (simp; done) | (simp; omega)) _) | (refine Below.alloc ?_ (by first | omega | (simp; done) | (simp; omega)) _) | (refine Below.trans ?_ (Below.mono (by assumption) (by first | omega | (simp; done) | (simp; omega))))))⟩; exact ret_sb (by unfold brT; repeat' (first | rfl | omega | (dsimp only; omega) | split | (exfalso; omega))) (by unfold brT; repeat' (first | rfl | omega | (dsimp only; omega) | split | (exfalso; omega))) (by unfold brT; repeat' (first | rfl | omega | (dsimp only; omega) | split | (exfalso; omega))))
    · have c2 : (ah == 0) = false := by rw [beq_eq_false_iff_ne]; exact h2
      go_enter Try.func115, Try.ntmps115
      go_wp2
      all_goals (refine bodyPost_ret (by simp [results, Try.results115, go_sem]; try rfl) rfl ⟨?_, (by repeat (first | exact Below.refl _ _ | (refine Below.drew ?_) | (refine below_drewN ?_ _) | (refine Below.setCell ?_ (by first | omega | (simp; done) | (simp; omega)) _) | (refine Below.alloc ?_ (by first | omega | (simp; done) | (simp; omega)) _) | (refine Below.trans ?_ (Below.mono (by assumption) (by first | omega | (simp; done) | (simp; omega))))))⟩; exact ret_sb (by unfold brT; repeat' (first | rfl | omega | (dsimp only; omega) | split | (exfalso; omega))) (by unfold brT; repeat' (first | rfl | omega | (dsimp only; omega) | split | (exfalso; omega))) (by unfold brT; repeat' (first | rfl | omega | (dsimp only; omega) | split | (exfalso; omega))))
  · have c1 : (al == 0) = false := by rw [beq_eq_false_iff_ne]; exact h1
    by_cases h2 : ah = 0
    · subst h2
      go_enter Try.func115, Try.ntmps115
      go_wp2
      all_goals (refine bodyPost_ret (by simp [results, Try.results115, go_sem]; try rfl) rfl ⟨?_, (by repeat (first | exact Below.refl _ _ | (refine Below.drew ?_) | (refine below_drewN ?_ _) | (refine Below.setCell ?_ (by first | omega | (simp; done) | (simp; omega)) _) | (refine Below.alloc ?_ (by first | omega | (simp; done) | (simp; omega)) _) | (refine Below.trans ?_ (Below.mono (by assumption) (by first | omega | (simp; done) | (simp; omega))))))⟩; exact ret_sb (by unfold brT; repeat' (first | rfl | omega | (dsimp only; omega) | split | (exfalso; omega))) (by unfold brT; repeat' (first | rfl | omega | (dsimp only; omega) | split | (exfalso; omega))) (by unfold brT; repeat' (first | rfl | omega | (dsimp only; omega) | split | (exfalso; omega))))
    · have c2 : (ah == 0) = false := by rw [beq_eq_false_iff_ne]; exact h2
      go_enter Try.func115, Try.ntmps115
      go_wp2
      all_goals (refine bodyPost_ret (by simp [results, Try.results115, go_sem]; try rfl) rfl ⟨?_, (by repeat (first | exact Below.refl _ _ | (refine Below.drew ?_) | (refine below_drewN ?_ _) | (refine Below.setCell ?_ (by first | omega | (simp; done) | (simp; omega)) _) | (refine Below.alloc ?_ (by first | omega | (simp; done) | (simp; omega)) _) | (refine Below.trans ?_ (Below.mono (by assumption) (by first | omega | (simp; done) | (simp; omega))))))⟩; exact ret_sb (by unfold brT; repeat' (first | rfl | omega | (dsimp only; omega) | split | (exfalso; omega))) (by unfold brT; repeat' (first | rfl | omega | (dsimp only; omega) | split | (exfalso; omega))) (by unfold brT; repeat' (first | rfl | omega | (dsimp only; omega) | split | (exfalso; omega))))
theorem branchr_any (a : Int × Int) (yes : Bool) (w : World) : Calls Try.prog 115 #[.agg #[.int .i64 a.1, .int .i64 a.2], .bool yes] w fun e w' => e = .returned (.tuple #[.agg #[.int .i64 ((branchP a yes).1).1, .int .i64 ((branchP a yes).1).2], .bool (branchP a yes).2]) ∧ Below w.heap.size w w' := by
  cases yes
  · exact branchr_no a.1 a.2 w
  · exact branchr_yes a.1 a.2 w
set_option maxHeartbeats 2000000 in
theorem kbrr_any (ai : Bool) (an : Int) (yes : Bool) (w : World) : Calls Try.prog 114 #[.agg #[.bool ai, .int .i64 an], .bool yes] w fun e w' => e = .returned (.tuple #[.agg #[.bool (brI ai an yes), .int .i64 (brN ai an yes)], .bool (brOk ai an yes)]) ∧ Below w.heap.size w w' := by
  cases yes <;> cases ai <;> by_cases h : an = 0 <;> (try subst h) <;>
  · go_enter Try.func114, Try.ntmps114
    go_wp2_with (first | (go_at_call 63; refine (kclean_any _ _ _).mono ?_; rintro e w' ⟨rfl, hb⟩; obtain ⟨hc, hf⟩ := bcell hb; have hz := hb.size; simp at hz))
    all_goals (exact bodyPost_ret (by simp [results, Try.results114, go_sem, *]; try rfl) rfl ⟨by simp [brI, brN, brOk, cleanN, *], (by repeat (first | exact Below.refl _ _ | (refine Below.drew ?_) | (refine Below.setCell ?_ (by first | omega | (simp; done) | (simp; omega)) _) | (refine Below.alloc ?_ (by first | omega | (simp; done) | (simp; omega)) _) | (refine Below.trans ?_ (Below.mono (by assumption) (by first | omega | (simp; done) | (simp; omega))))))⟩)
theorem sbranchr_any (a : Int) (yes : Bool) (w : World) : Calls Try.prog 117 #[.int .i64 a, .bool yes] w fun e w' => e = .returned (.int .i64 (up (branchS (low a) yes))) ∧ w' = w := by
  cases yes <;>
  · go_enter Try.func117, Try.ntmps117
    go_wp2
    go_ret
    exact ⟨ret_int (by rw [and_up _ _ (by omega) (by omega)]; rfl), rfl⟩
theorem pbranchr_any (a : Int) (yes : Bool) (w : World) : Calls Try.prog 118 #[.int .i64 a, .bool yes] w fun e w' => e = .returned (.int .i64 (up (branchQ (low a) yes))) ∧ w' = w := by
  cases yes <;>
  · go_enter Try.func118, Try.ntmps118
    go_wp2
    go_ret
    exact ⟨ret_int (by rw [and_up _ _ (by omega) (by omega)]; rfl), rfl⟩
set_option maxRecDepth 100000 in
set_option maxHeartbeats 16000000 in
theorem rbranchr_V (x : V) (yes : Bool) (w : World) : Calls Try.prog 70 #[.agg #[.int .i64 (up x.s), .bool x.k, .int .i64 x.n, .int .i64 x.lo, .int .i64 x.hi, .int .i64 (up x.p)], .bool yes] w fun e w' => e = .returned (.tuple #[.agg #[.int .i64 (up (branchV x yes).1.s), .bool (branchV x yes).1.k, .int .i64 (branchV x yes).1.n, .int .i64 (branchV x yes).1.lo, .int .i64 (branchV x yes).1.hi, .int .i64 (up (branchV x yes).1.p)], .bool (branchV x yes).2]) ∧ Below w.heap.size w w' := by
  have HR : Hid (someV ⟨branchS x.s yes, brI x.k x.n yes, brN x.k x.n yes, (branchP (x.lo, x.hi) yes).1.1, (branchP (x.lo, x.hi) yes).1.2, branchQ x.p yes⟩ (brOk x.k x.n yes && (branchP (x.lo, x.hi) yes).2) = branchV x yes) := rfl
  generalize branchV x yes = r at *
  have c1 := fun w => kbrr_any x.k x.n yes w
  have c2 := fun w => branchr_any (x.lo, x.hi) yes w
  have c3 := fun w => bel0 (sbranchr_any (up x.s) yes w)
  have c4 := fun w => bel0 (pbranchr_any (up x.p) yes w)
  simp only [low_up] at c3 c4
  dsimp only at c2
  generalize branchP (x.lo, x.hi) yes = m at *
  generalize brOk x.k x.n yes = t1 at *
  generalize brI x.k x.n yes = mI at *
  generalize brN x.k x.n yes = mN at *
  generalize branchS x.s yes = gs at *
  generalize branchQ x.p yes = gp at *
  have x0 : Br ((w.alloc (.cells #[.int .i64 (up x.s), .bool x.k, .int .i64 x.n, .int .i64 x.lo, .int .i64 x.hi, .int .i64 (up x.p)] 48)).alloc (.cells #[.int .i64 0, .bool false, .int .i64 0, .int .i64 0, .int .i64 0, .int .i64 0] 48)) (w.heap.size) (up x.s) x.k x.n x.lo x.hi (up x.p) := ((Br.new w (up x.s) x.k x.n x.lo x.hi (up x.p) 48)).keep ((Below.refl _ _).alloc (Nat.le_refl _) _)
  have x1 : Br ((w.alloc (.cells #[.int .i64 (up x.s), .bool x.k, .int .i64 x.n, .int .i64 x.lo, .int .i64 x.hi, .int .i64 (up x.p)] 48)).alloc (.cells #[.int .i64 0, .bool false, .int .i64 0, .int .i64 0, .int .i64 0, .int .i64 0] 48)) (w.heap.size + 1) 0 false 0 0 0 0 := (by simpa using Br.new (w.alloc (.cells #[.int .i64 (up x.s), .bool x.k, .int .i64 x.n, .int .i64 x.lo, .int .i64 x.hi, .int .i64 (up x.p)] 48)) 0 false 0 0 0 0 48 : Br ((w.alloc (.cells #[.int .i64 (up x.s), .bool x.k, .int .i64 x.n, .int .i64 x.lo, .int .i64 x.hi, .int .i64 (up x.p)] 48)).alloc (.cells #[.int .i64 0, .bool false, .int .i64 0, .int .i64 0, .int .i64 0, .int .i64 0] 48)) (w.heap.size + 1) 0 false 0 0 0 0)
  have xf : Fz ((w.alloc (.cells #[.int .i64 (up x.s), .bool x.k, .int .i64 x.n, .int .i64 x.lo, .int .i64 x.hi, .int .i64 (up x.p)] 48)).alloc (.cells #[.int .i64 0, .bool false, .int .i64 0, .int .i64 0, .int .i64 0, .int .i64 0] 48)) (w.heap.size + 1) := by simpa using Fz.new (w.alloc (.cells #[.int .i64 (up x.s), .bool x.k, .int .i64 x.n, .int .i64 x.lo, .int .i64 x.hi, .int .i64 (up x.p)] 48)) 0 false 0 0 0 0 48
  have xb : Below w.heap.size w ((w.alloc (.cells #[.int .i64 (up x.s), .bool x.k, .int .i64 x.n, .int .i64 x.lo, .int .i64 x.hi, .int .i64 (up x.p)] 48)).alloc (.cells #[.int .i64 0, .bool false, .int .i64 0, .int .i64 0, .int .i64 0, .int .i64 0] 48)) := (by repeat (first | exact Below.refl _ _ | (refine Below.drew ?_) | (refine below_drewN ?_ _) | (refine Below.setCell ?_ (by first | omega | (simp; done) | (simp; omega)) _) | (refine Below.alloc ?_ (by first | omega | (simp; done) | (simp; omega)) _) | (refine Below.trans ?_ (Below.mono (by assumption) (by first | omega | (simp; done) | (simp; omega))))))
  go_enter Try.func70, Try.ntmps70
  go_upto_region 1 with fail
  go_name_world W hW
  rw [hW] at x0 x1 xf xb
  clear hW
  obtain ⟨N, hN⟩ : ∃ N, N = w.heap.size := ⟨_, rfl⟩
  rw [← hN] at x0 x1 xf xb ⊢
  have HN : Hid (N = w.heap.size) := hN
  clear hN
  have HA := hide (And.intro x0 (And.intro x1 (And.intro xf xb)))
  clear x0 x1 xf xb
  have a0 := HA.out.1.c0
  have a1 := HA.out.1.c1
  have a2 := HA.out.1.c2
  have a3 := HA.out.1.c3
  have a4 := HA.out.1.c4
  have a5 := HA.out.1.c5
  go_upto_region 2 with (go_at_call 114; refine (c1 _).mono ?_; rintro e wK ⟨rfl, hK⟩)
  go_name_world W2 hW2
  have HB : Hid (Br W2 N (up x.s) x.k x.n x.lo x.hi (up x.p) ∧ Br W2 (N + 1) 0 false 0 0 0 0 ∧ Fz W2 (N + 1) ∧ Below N w W2 ∧ K2 W2 wK.heap.size mI mN ∧ (N + 1) < wK.heap.size) := by
    rw [← hW2]
    have k0 := HA.out.1.keep hK
    have k1 := HA.out.2.1.keep hK
    have kf := HA.out.2.2.1.keep HA.out.2.1.lt hK
    have kb := HA.out.2.2.2.trans (hK.mono (Nat.le_of_lt HA.out.1.lt))
    exact ⟨k0.keep ((Below.refl _ _).alloc (Nat.le_refl _) _), k1.keep ((Below.refl _ _).alloc (Nat.le_refl _) _), kf.keep k1.lt ((Below.refl _ _).alloc (Nat.le_refl _) _), kb.alloc (Nat.le_of_lt k0.lt) _, K2.new _ _ _ _, k1.lt⟩
  clear hW2 hK HA c1 a0 a1 a2 a3 a4 a5
  generalize wK.heap.size = T6 at *
  have a0 := HB.out.1.c0
  have a1 := HB.out.1.c1
  have a2 := HB.out.1.c2
  have a3 := HB.out.1.c3
  have a4 := HB.out.1.c4
  have a5 := HB.out.1.c5
  go_upto_region 3 with (go_at_call 115; refine (c2 _).mono ?_; rintro e wK ⟨rfl, hK⟩)
  go_name_world W3 hW3
  have HC : Hid (Br W3 N (up x.s) x.k x.n x.lo x.hi (up x.p) ∧ Br W3 (N + 1) 0 false 0 0 0 0 ∧ Fz W3 (N + 1) ∧ Below N w W3 ∧ K2 W3 T6 mI mN ∧ S2 W3 wK.heap.size m.1.1 m.1.2 ∧ (N + 1) < T6 ∧ (N + 1) < wK.heap.size) := by
    rw [← hW3]
    have k0 := HB.out.1.keep hK
    have k1 := HB.out.2.1.keep hK
    have kf := HB.out.2.2.1.keep HB.out.2.1.lt hK
    have kb := HB.out.2.2.2.1.trans (hK.mono (Nat.le_of_lt HB.out.1.lt))
    have k5 := (HB.out.2.2.2.2.1).keep hK
    exact ⟨k0.keep ((Below.refl _ _).alloc (Nat.le_refl _) _), k1.keep ((Below.refl _ _).alloc (Nat.le_refl _) _), kf.keep k1.lt ((Below.refl _ _).alloc (Nat.le_refl _) _), kb.alloc (Nat.le_of_lt k0.lt) _, k5.keep ((Below.refl _ _).alloc (Nat.le_refl _) _), S2.new _ _ _ _, HB.out.2.2.2.2.2, k1.lt⟩
  clear hW3 hK HB c2 a0 a1 a2 a3 a4 a5
  generalize wK.heap.size = T8 at *
  have HCL : Hid (∀ a b : World, (a.cell? ⟨N, 0, none⟩ = some (.int .i64 (up x.s)) ∧ a.cell? ⟨N, 5, none⟩ = some (.int .i64 (up x.p)) ∧ a.cell? ⟨T6, 0, none⟩ = some (.bool mI) ∧ a.cell? ⟨T6, 1, none⟩ = some (.int .i64 mN) ∧ a.cell? ⟨T8, 0, none⟩ = some (.int .i64 m.1.1) ∧ a.cell? ⟨T8, 1, none⟩ = some (.int .i64 m.1.2) ∧ Hid (Br a N (up x.s) x.k x.n x.lo x.hi (up x.p) ∧ Rw a (N + 1) ∧ Below N w a ∧ K2 a T6 mI mN ∧ S2 a T8 m.1.1 m.1.2 ∧ (N + 1) < T6 ∧ (N + 1) < T8)) → Below a.heap.size a b → (b.cell? ⟨N, 0, none⟩ = some (.int .i64 (up x.s)) ∧ b.cell? ⟨N, 5, none⟩ = some (.int .i64 (up x.p)) ∧ b.cell? ⟨T6, 0, none⟩ = some (.bool mI) ∧ b.cell? ⟨T6, 1, none⟩ = some (.int .i64 mN) ∧ b.cell? ⟨T8, 0, none⟩ = some (.int .i64 m.1.1) ∧ b.cell? ⟨T8, 1, none⟩ = some (.int .i64 m.1.2) ∧ Hid (Br b N (up x.s) x.k x.n x.lo x.hi (up x.p) ∧ Rw b (N + 1) ∧ Below N w b ∧ K2 b T6 mI mN ∧ S2 b T8 m.1.1 m.1.2 ∧ (N + 1) < T6 ∧ (N + 1) < T8))) := fun a b h hb => by
    have y9 := (h.2.2.2.2.2.2).out
    have z9 : Br b N (up x.s) x.k x.n x.lo x.hi (up x.p) ∧ Rw b (N + 1) ∧ Below N w b ∧ K2 b T6 mI mN ∧ S2 b T8 m.1.1 m.1.2 ∧ (N + 1) < T6 ∧ (N + 1) < T8 := ⟨y9.1.keep hb, y9.2.1.keep hb, y9.2.2.1.trans (hb.mono (Nat.le_of_lt y9.1.lt)), y9.2.2.2.1.keep hb, y9.2.2.2.2.1.keep hb, y9.2.2.2.2.2.1, y9.2.2.2.2.2.2⟩
    exact ⟨z9.1.c0, z9.1.c5, z9.2.2.2.1.1, z9.2.2.2.1.2, z9.2.2.2.2.1.1, z9.2.2.2.2.1.2, z9⟩
  have HST : Hid (∀ a : World, (a.cell? ⟨N, 0, none⟩ = some (.int .i64 (up x.s)) ∧ a.cell? ⟨N, 5, none⟩ = some (.int .i64 (up x.p)) ∧ a.cell? ⟨T6, 0, none⟩ = some (.bool mI) ∧ a.cell? ⟨T6, 1, none⟩ = some (.int .i64 mN) ∧ a.cell? ⟨T8, 0, none⟩ = some (.int .i64 m.1.1) ∧ a.cell? ⟨T8, 1, none⟩ = some (.int .i64 m.1.2) ∧ Hid (Br a N (up x.s) x.k x.n x.lo x.hi (up x.p) ∧ Rw a (N + 1) ∧ Below N w a ∧ K2 a T6 mI mN ∧ S2 a T8 m.1.1 m.1.2 ∧ (N + 1) < T6 ∧ (N + 1) < T8)) → ((st6 a (N + 1) (.int .i64 (up r.1.s)) (.bool r.1.k) (.int .i64 r.1.n) (.int .i64 r.1.lo) (.int .i64 r.1.hi) (.int .i64 (up r.1.p))).cell? ⟨N, 0, none⟩ = some (.int .i64 (up x.s)) ∧ (st6 a (N + 1) (.int .i64 (up r.1.s)) (.bool r.1.k) (.int .i64 r.1.n) (.int .i64 r.1.lo) (.int .i64 r.1.hi) (.int .i64 (up r.1.p))).cell? ⟨N, 5, none⟩ = some (.int .i64 (up x.p)) ∧ (st6 a (N + 1) (.int .i64 (up r.1.s)) (.bool r.1.k) (.int .i64 r.1.n) (.int .i64 r.1.lo) (.int .i64 r.1.hi) (.int .i64 (up r.1.p))).cell? ⟨T6, 0, none⟩ = some (.bool mI) ∧ (st6 a (N + 1) (.int .i64 (up r.1.s)) (.bool r.1.k) (.int .i64 r.1.n) (.int .i64 r.1.lo) (.int .i64 r.1.hi) (.int .i64 (up r.1.p))).cell? ⟨T6, 1, none⟩ = some (.int .i64 mN) ∧ (st6 a (N + 1) (.int .i64 (up r.1.s)) (.bool r.1.k) (.int .i64 r.1.n) (.int .i64 r.1.lo) (.int .i64 r.1.hi) (.int .i64 (up r.1.p))).cell? ⟨T8, 0, none⟩ = some (.int .i64 m.1.1) ∧ (st6 a (N + 1) (.int .i64 (up r.1.s)) (.bool r.1.k) (.int .i64 r.1.n) (.int .i64 r.1.lo) (.int .i64 r.1.hi) (.int .i64 (up r.1.p))).cell? ⟨T8, 1, none⟩ = some (.int .i64 m.1.2) ∧ Hid (Br (st6 a (N + 1) (.int .i64 (up r.1.s)) (.bool r.1.k) (.int .i64 r.1.n) (.int .i64 r.1.lo) (.int .i64 r.1.hi) (.int .i64 (up r.1.p))) N (up x.s) x.k x.n x.lo x.hi (up x.p) ∧ Rw (st6 a (N + 1) (.int .i64 (up r.1.s)) (.bool r.1.k) (.int .i64 r.1.n) (.int .i64 r.1.lo) (.int .i64 r.1.hi) (.int .i64 (up r.1.p))) (N + 1) ∧ Below N w (st6 a (N + 1) (.int .i64 (up r.1.s)) (.bool r.1.k) (.int .i64 r.1.n) (.int .i64 r.1.lo) (.int .i64 r.1.hi) (.int .i64 (up r.1.p))) ∧ K2 (st6 a (N + 1) (.int .i64 (up r.1.s)) (.bool r.1.k) (.int .i64 r.1.n) (.int .i64 r.1.lo) (.int .i64 r.1.hi) (.int .i64 (up r.1.p))) T6 mI mN ∧ S2 (st6 a (N + 1) (.int .i64 (up r.1.s)) (.bool r.1.k) (.int .i64 r.1.n) (.int .i64 r.1.lo) (.int .i64 r.1.hi) (.int .i64 (up r.1.p))) T8 m.1.1 m.1.2 ∧ (N + 1) < T6 ∧ (N + 1) < T8))) := fun a h => by
    have y9 := (h.2.2.2.2.2.2).out
    have g1 := y9.2.2.2.2.2.1
    have g2 := y9.2.2.2.2.2.2
    have z9 : Br (st6 a (N + 1) (.int .i64 (up r.1.s)) (.bool r.1.k) (.int .i64 r.1.n) (.int .i64 r.1.lo) (.int .i64 r.1.hi) (.int .i64 (up r.1.p))) N (up x.s) x.k x.n x.lo x.hi (up x.p) ∧ Rw (st6 a (N + 1) (.int .i64 (up r.1.s)) (.bool r.1.k) (.int .i64 r.1.n) (.int .i64 r.1.lo) (.int .i64 r.1.hi) (.int .i64 (up r.1.p))) (N + 1) ∧ Below N w (st6 a (N + 1) (.int .i64 (up r.1.s)) (.bool r.1.k) (.int .i64 r.1.n) (.int .i64 r.1.lo) (.int .i64 r.1.hi) (.int .i64 (up r.1.p))) ∧ K2 (st6 a (N + 1) (.int .i64 (up r.1.s)) (.bool r.1.k) (.int .i64 r.1.n) (.int .i64 r.1.lo) (.int .i64 r.1.hi) (.int .i64 (up r.1.p))) T6 mI mN ∧ S2 (st6 a (N + 1) (.int .i64 (up r.1.s)) (.bool r.1.k) (.int .i64 r.1.n) (.int .i64 r.1.lo) (.int .i64 r.1.hi) (.int .i64 (up r.1.p))) T8 m.1.1 m.1.2 ∧ (N + 1) < T6 ∧ (N + 1) < T8 := ⟨y9.1.put (by omega) _ _ _ _ _ _, y9.2.1.put (up r.1.s) r.1.k r.1.n r.1.lo r.1.hi (up r.1.p), st6_below y9.2.2.1 _ (by omega) _ _ _ _ _ _, y9.2.2.2.1.put (by omega) _ _ _ _ _ _, y9.2.2.2.2.1.put (by omega) _ _ _ _ _ _, g1, g2⟩
    exact ⟨z9.1.c0, z9.1.c5, z9.2.2.2.1.1, z9.2.2.2.1.2, z9.2.2.2.2.1.1, z9.2.2.2.2.1.2, z9⟩
  have z0 : Br W3 N (up x.s) x.k x.n x.lo x.hi (up x.p) ∧ Rw W3 (N + 1) ∧ Below N w W3 ∧ K2 W3 T6 mI mN ∧ S2 W3 T8 m.1.1 m.1.2 ∧ (N + 1) < T6 ∧ (N + 1) < T8 := ⟨HC.out.1, ⟨_, _, _, _, _, _, HC.out.2.1, HC.out.2.2.1⟩, HC.out.2.2.2.1, HC.out.2.2.2.2.1, HC.out.2.2.2.2.2.1, HC.out.2.2.2.2.2.2.1, HC.out.2.2.2.2.2.2.2⟩
  have hS0 : W3.cell? ⟨N, 0, none⟩ = some (.int .i64 (up x.s)) ∧ W3.cell? ⟨N, 5, none⟩ = some (.int .i64 (up x.p)) ∧ W3.cell? ⟨T6, 0, none⟩ = some (.bool mI) ∧ W3.cell? ⟨T6, 1, none⟩ = some (.int .i64 mN) ∧ W3.cell? ⟨T8, 0, none⟩ = some (.int .i64 m.1.1) ∧ W3.cell? ⟨T8, 1, none⟩ = some (.int .i64 m.1.2) ∧ Hid (Br W3 N (up x.s) x.k x.n x.lo x.hi (up x.p) ∧ Rw W3 (N + 1) ∧ Below N w W3 ∧ K2 W3 T6 mI mN ∧ S2 W3 T8 m.1.1 m.1.2 ∧ (N + 1) < T6 ∧ (N + 1) < T8) := ⟨z0.1.c0, z0.1.c5, z0.2.2.2.1.1, z0.2.2.2.1.2, z0.2.2.2.2.1.1, z0.2.2.2.2.1.2, z0⟩
  clear z0 HC
  have c5 := fun w => allr_V ⟨gs, mI, mN, m.1.1, m.1.2, gp⟩ t1 m.2 w
  rw [HR.out] at c5
  refine wp_region_held_drew (S := fun w' => w'.cell? ⟨N, 0, none⟩ = some (.int .i64 (up x.s)) ∧ w'.cell? ⟨N, 5, none⟩ = some (.int .i64 (up x.p)) ∧ w'.cell? ⟨T6, 0, none⟩ = some (.bool mI) ∧ w'.cell? ⟨T6, 1, none⟩ = some (.int .i64 mN) ∧ w'.cell? ⟨T8, 0, none⟩ = some (.int .i64 m.1.1) ∧ w'.cell? ⟨T8, 1, none⟩ = some (.int .i64 m.1.2) ∧ Hid (Br w' N (up x.s) x.k x.n x.lo x.hi (up x.p) ∧ Rw w' (N + 1) ∧ Below N w w' ∧ K2 w' T6 mI mN ∧ S2 w' T8 m.1.1 m.1.2 ∧ (N + 1) < T6 ∧ (N + 1) < T8)) (by kernel_rfl) (HCL.out _ _ hS0 ((Below.refl _ _).drew)) (fun hHeld => ?_)
  refine wpAnyH_take (i := 0) (oi := ({ dst := some 24, op := Op.fieldAddr 48 (Operand.tmp 2) 0, type := 0, pos := _, after := _, guard := _ } : Oper)) (v := ?_) rfl (by kernel_rfl) (by kernel_rfl) (by kernel_rfl) (fun _ _ _ h => h) (Or.inl ⟨by rfl, ?_⟩) (by assumption) ?_
  rotate_left
  · (intro wz hSw; (try dsimp only at hSw); go_simp; try with_reducible rfl)
  simp only [Act.put, List.setIfInBounds_toArray, List.set_cons_zero, List.set_cons_succ]
  refine wpAnyH_take (i := 1) (oi := ({ dst := some 25, op := Op.load 3 (Operand.tmp 24), type := 3, pos := _, after := _, guard := _ } : Oper)) (v := ?_) rfl (by kernel_rfl) (by kernel_rfl) (by kernel_rfl) (fun _ _ _ h => h) (Or.inl ⟨by rfl, ?_⟩) (by assumption) ?_
  rotate_left
  · (intro wz hSw; (try dsimp only at hSw); go_simp; try with_reducible rfl)
  simp only [Act.put, List.setIfInBounds_toArray, List.set_cons_zero, List.set_cons_succ]
  refine wpAnyH_take (i := 2) (oi := ({ dst := some 26, op := Op.move (Operand.tmp 1), type := 4, pos := _, after := _, guard := _ } : Oper)) (v := ?_) rfl (by kernel_rfl) (by kernel_rfl) (by kernel_rfl) (fun _ _ _ h => h) (Or.inl ⟨by rfl, ?_⟩) (by assumption) ?_
  rotate_left
  · (intro wz hSw; (try dsimp only at hSw); go_simp; try with_reducible rfl)
  simp only [Act.put, List.setIfInBounds_toArray, List.set_cons_zero, List.set_cons_succ]
  refine wpAnyH_take (i := 4) (oi := ({ dst := some 28, op := Op.load 44 (Operand.tmp 6), type := 44, pos := _, after := _, guard := _ } : Oper)) (v := ?_) rfl (by kernel_rfl) (by kernel_rfl) (by kernel_rfl) (fun _ _ _ h => h) (Or.inl ⟨by rfl, ?_⟩) (by assumption) ?_
  rotate_left
  · (intro wz hSw; (try dsimp only at hSw); go_simp; try with_reducible rfl)
  simp only [Act.put, List.setIfInBounds_toArray, List.set_cons_zero, List.set_cons_succ]
  refine wpAnyH_take (i := 5) (oi := ({ dst := some 29, op := Op.load 46 (Operand.tmp 8), type := 46, pos := _, after := _, guard := _ } : Oper)) (v := ?_) rfl (by kernel_rfl) (by kernel_rfl) (by kernel_rfl) (fun _ _ _ h => h) (Or.inl ⟨by rfl, ?_⟩) (by assumption) ?_
  rotate_left
  · (intro wz hSw; (try dsimp only at hSw); go_simp; try with_reducible rfl)
  simp only [Act.put, List.setIfInBounds_toArray, List.set_cons_zero, List.set_cons_succ]
  refine wpAnyH_take (i := 6) (oi := ({ dst := some 30, op := Op.fieldAddr 48 (Operand.tmp 2) 3, type := 0, pos := _, after := _, guard := _ } : Oper)) (v := ?_) rfl (by kernel_rfl) (by kernel_rfl) (by kernel_rfl) (fun _ _ _ h => h) (Or.inl ⟨by rfl, ?_⟩) (by assumption) ?_
  rotate_left
  · (intro wz hSw; (try dsimp only at hSw); go_simp; try with_reducible rfl)
  simp only [Act.put, List.setIfInBounds_toArray, List.set_cons_zero, List.set_cons_succ]
  refine wpAnyH_take (i := 7) (oi := ({ dst := some 31, op := Op.load 3 (Operand.tmp 30), type := 3, pos := _, after := _, guard := _ } : Oper)) (v := ?_) rfl (by kernel_rfl) (by kernel_rfl) (by kernel_rfl) (fun _ _ _ h => h) (Or.inl ⟨by rfl, ?_⟩) (by assumption) ?_
  rotate_left
  · (intro wz hSw; (try dsimp only at hSw); go_simp; try with_reducible rfl)
  simp only [Act.put, List.setIfInBounds_toArray, List.set_cons_zero, List.set_cons_succ]
  refine wpAnyH_take (i := 8) (oi := ({ dst := some 32, op := Op.move (Operand.tmp 1), type := 4, pos := _, after := _, guard := _ } : Oper)) (v := ?_) rfl (by kernel_rfl) (by kernel_rfl) (by kernel_rfl) (fun _ _ _ h => h) (Or.inl ⟨by rfl, ?_⟩) (by assumption) ?_
  rotate_left
  · (intro wz hSw; (try dsimp only at hSw); go_simp; try with_reducible rfl)
  simp only [Act.put, List.setIfInBounds_toArray, List.set_cons_zero, List.set_cons_succ]
  refine wpAnyH_take (i := 11) (oi := ({ dst := some 35, op := Op.move (Operand.tmp 7), type := 4, pos := _, after := _, guard := _ } : Oper)) (v := ?_) rfl (by kernel_rfl) (by kernel_rfl) (by kernel_rfl) (fun _ _ _ h => h) (Or.inl ⟨by rfl, ?_⟩) (by assumption) ?_
  rotate_left
  · (intro wz hSw; (try dsimp only at hSw); go_simp; try with_reducible rfl)
  simp only [Act.put, List.setIfInBounds_toArray, List.set_cons_zero, List.set_cons_succ]
  refine wpAnyH_take (i := 12) (oi := ({ dst := some 36, op := Op.move (Operand.tmp 9), type := 4, pos := _, after := _, guard := _ } : Oper)) (v := ?_) rfl (by kernel_rfl) (by kernel_rfl) (by kernel_rfl) (fun _ _ _ h => h) (Or.inl ⟨by rfl, ?_⟩) (by assumption) ?_
  rotate_left
  · (intro wz hSw; (try dsimp only at hSw); go_simp; try with_reducible rfl)
  simp only [Act.put, List.setIfInBounds_toArray, List.set_cons_zero, List.set_cons_succ]
  refine wpAnyH_ready (rs := [3]) (by kernel_rfl) (by simp) ?_
  refine AllReadyH.cons (o := ({ dst := some 27, op := Op.call { callee := Callee.value (Operand.func 117), args := #[Operand.tmp 25, Operand.tmp 26], argTypes := #[3, 4] }, type := 3, pos := _, after := _, guard := _ } : Oper)) rfl (fun K hK => ?_) AllReadyH.nil
  go_simp
  go_at_call 117
  refine (lift (c3 _) (by assumption) HCL.out).mono ?_
  rintro e v1 ⟨rfl, g1⟩
  clear hHeld
  refine hK.out _ _ g1 (fun hHeld => ?_)
  clear hK K
  refine wpAnyH_ready (rs := [9]) (by kernel_rfl) (by simp) ?_
  refine AllReadyH.cons (o := ({ dst := some 33, op := Op.call { callee := Callee.value (Operand.func 118), args := #[Operand.tmp 31, Operand.tmp 32], argTypes := #[3, 4] }, type := 3, pos := _, after := _, guard := _ } : Oper)) rfl (fun K hK => ?_) AllReadyH.nil
  go_simp
  go_at_call 118
  refine (lift (c4 _) (by assumption) HCL.out).mono ?_
  rintro e v2 ⟨rfl, g2⟩
  clear hHeld g1
  refine hK.out _ _ g2 (fun hHeld => ?_)
  clear hK K
  refine wpAnyH_take (i := 10) (oi := ({ dst := some 34, op := Op.build 48 #[(0, Operand.tmp 27), (1, Operand.tmp 28), (2, Operand.tmp 29), (3, Operand.tmp 33)], type := 48, pos := _, after := _, guard := _ } : Oper)) (v := ?_) rfl (by kernel_rfl) (by kernel_rfl) (by kernel_rfl) (fun _ _ _ h => h) (Or.inl ⟨by rfl, ?_⟩) (by assumption) ?_
  rotate_left
  · (intro wz hSw; (try dsimp only at hSw); go_simp; try with_reducible rfl)
  simp only [Act.put, List.setIfInBounds_toArray, List.set_cons_zero, List.set_cons_succ]
  refine wpAnyH_ready (rs := [13]) (by kernel_rfl) (by simp) ?_
  refine AllReadyH.cons (o := ({ dst := some 37, op := Op.call { callee := Callee.value (Operand.func 116), args := #[Operand.tmp 34, Operand.tmp 35, Operand.tmp 36], argTypes := #[48, 4, 4] }, type := 105, pos := _, after := _, guard := _ } : Oper)) rfl (fun K hK => ?_) AllReadyH.nil
  go_simp
  go_at_call 116
  refine (lift (c5 _) (by assumption) HCL.out).mono ?_
  rintro e v3 ⟨rfl, g3⟩
  clear hHeld g2
  refine hK.out _ _ g3 (fun hHeld => ?_)
  clear hK K
  refine wpAnyH_take (i := 14) (oi := ({ dst := some 38, op := Op.extract (Operand.tmp 37) 0, type := 48, pos := _, after := _, guard := _ } : Oper)) (v := ?_) rfl (by kernel_rfl) (by kernel_rfl) (by kernel_rfl) (fun _ _ _ h => h) (Or.inl ⟨by rfl, ?_⟩) (by assumption) ?_
  rotate_left
  · (intro wz hSw; (try dsimp only at hSw); go_simp; try with_reducible rfl)
  simp only [Act.put, List.setIfInBounds_toArray, List.set_cons_zero, List.set_cons_succ]
  refine wpAnyH_take (i := 15) (oi := ({ dst := some 39, op := Op.extract (Operand.tmp 37) 1, type := 4, pos := _, after := _, guard := _ } : Oper)) (v := ?_) rfl (by kernel_rfl) (by kernel_rfl) (by kernel_rfl) (fun _ _ _ h => h) (Or.inl ⟨by rfl, ?_⟩) (by assumption) ?_
  rotate_left
  · (intro wz hSw; (try dsimp only at hSw); go_simp; try with_reducible rfl)
  simp only [Act.put, List.setIfInBounds_toArray, List.set_cons_zero, List.set_cons_succ]
  refine wpAnyH_ready (rs := [16]) (by kernel_rfl) (by simp) ?_
  refine AllReadyH.cons (o := ({ dst := none, op := Op.store 48 (Operand.tmp 4) (Operand.tmp 38), type := 0, pos := _, after := _, guard := _ } : Oper)) rfl (fun K hK => ?_) AllReadyH.nil
  have zz := (hHeld.2.2.2.2.2.2).out
  obtain ⟨s9, k9, n9, lo9, hi9, p9, zb, zf⟩ := zz.2.1
  have zc0 := zb.c0
  have zf0 := zf.f0
  have zc1 := zb.c1
  have zf1 := zf.f1
  have zc2 := zb.c2
  have zf2 := zf.f2
  have zc3 := zb.c3
  have zf3 := zf.f3
  have zc4 := zb.c4
  have zf4 := zf.f4
  have zc5 := zb.c5
  have zf5 := zf.f5
  go_simp
  have zw := zb.wrote (up r.1.s) r.1.k r.1.n r.1.lo r.1.hi (up r.1.p)
  have hZ := st6_below zz.2.2.1 (N + 1) (by omega) (.int .i64 (up r.1.s)) (.bool r.1.k) (.int .i64 r.1.n) (.int .i64 r.1.lo) (.int .i64 r.1.hi) (.int .i64 (up r.1.p))
  refine hK.out _ _ (HST.out _ hHeld) (fun _ => ?_)
  clear hK K zc0 zf0 zc1 zf1 zc2 zf2 zc3 zf3 zc4 zf4 zc5 zf5
  refine wpAnyH_take (i := 17) (oi := ({ dst := some 5, op := Op.assign (Operand.tmp 39), type := 4, pos := _, after := _, guard := _ } : Oper)) (v := ?_) rfl (by kernel_rfl) (by kernel_rfl) (by kernel_rfl) (fun _ _ _ h => h) (Or.inl ⟨by rfl, ?_⟩) (by assumption) ?_
  rotate_left
  · (intro wz hSw; (try dsimp only at hSw); go_simp; try with_reducible rfl)
  simp only [Act.put, List.setIfInBounds_toArray, List.set_cons_zero, List.set_cons_succ]
  refine wpAnyH_done (by kernel_rfl) ?_ _
  clear hS0 HCL HST hHeld g3 zz zb zf c3 c4 c5
  have b0 := zw.c0
  have b1 := zw.c1
  have b2 := zw.c2
  have b3 := zw.c3
  have b4 := zw.c4
  have b5 := zw.c5
  clear zw
  go_wp2
  refine bodyPost_ret (by simp [results, Try.results70, go_sem, *]; try rfl) rfl ⟨?_, by rw [← HN.out]; exact hZ⟩
  rfl
end Go.Proofs.Ytmhicllhjiglkaa
