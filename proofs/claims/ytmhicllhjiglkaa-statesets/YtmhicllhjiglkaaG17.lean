import Derived.Test.YtmhicllhjiglkaaG15
import Derived.Test.YtmhicllhjiglkaaG16
import Derived.Test.YtmhicllhjiglkaaG11
import Derived.Deep.RegionHeld3
import Derived.Test.YtmhicllhjiglkaaG04
import Derived.Test.YtmhicllhjiglkaaG01
namespace Go.Proofs.Ytmhicllhjiglkaa
open Go.RowKit
/-- a State, told by Values that are Right -/
structure VS where
  r : Bool
  us : List V
  ss : List (List Int)
def VS.raw (x : VS) : S := ⟨x.r, x.us.map V.raw, x.ss⟩
/-- what is told of either -/
def togV (op : V → V → V) (x y : VS) : VS := if x.r = false then y else if y.r = false then x else ⟨true, List.zipWith op x.us y.us, List.zipWith uniL x.ss y.ss⟩
/-- a State that is Right, whose sets have n sites at most -/
structure VOk (n : Nat) (x : VS) : Prop where
  len : x.ss.length = x.us.length
  le : x.us.length ≤ 1000
  ok : ∀ u ∈ x.us, u.ok
  up : ∀ l ∈ x.ss, UpP l ∧ l.length ≤ n
  nr : x.r = false → x.us = []
theorem VOk.inner {n : Nat} {x : VS} (h : VOk n x) (hn : n ≤ 5000) : ∀ (m : Nat) (l : List Int), x.ss[m]? = some l → l.length ≤ 100000 := fun m l hm => by
  have := (h.up l (List.mem_of_getElem? hm)).2
  omega
/-- what fix makes -/
theorem SOk.vok {s : S} {us : List V} {n k : Nat} (h : SOk s us n k) (hn : n ≤ 1000) : s = (VS.mk s.r us s.ss).raw ∧ VOk 60 ⟨s.r, us, s.ss⟩ :=
  ⟨by obtain ⟨r, vs, ss⟩ := s; unfold VS.raw; dsimp only; rw [← h.vs], ⟨h.len, by have := h.le; dsimp only; omega, h.ok, fun l hl => ⟨(h.up l hl).1, (h.up l hl).2.2⟩, h.nr⟩⟩
/-- join_S -/
theorem tog_joinV {w : World} {v1 v2 : Value} {x y : VS} {n m : Nat} (h1 : Rs w v1 x.raw) (h2 : Rs w v2 y.raw) (k1 : VOk n x) (k2 : VOk m y) (hn : n ≤ 5000) (hm : m ≤ 5000) :
    Calls Try.prog 43 #[v1, v2, .func (.func 44) #[] #[]] w fun e w' => ∃ v, e = .returned v ∧ Rn w' w.heap.size v (togV joinV x y).raw ∧ Below w.heap.size w w' := by
  obtain ⟨a, c, b, d, rfl, e1, e2, e3, e4, e5, e6⟩ := h1
  obtain ⟨a2, c2, b2, d2, rfl, f1, f2, f3, f4, f5, f6⟩ := h2
  obtain ⟨r, us, ss⟩ := x
  obtain ⟨r2, us2, ss2⟩ := y
  have i1 := k1.len
  have i2 := k2.len
  have i3 := k1.le
  have i4 := k2.le
  dsimp only [VS.raw] at *
  cases r with
  | false => exact together_l _ a b a2 b2 c d c2 d2 r2 (us.map V.raw) (us2.map V.raw) ss ss2 w f1 f2 f3 f5 (by rw [List.length_map]; omega) (by omega) (k2.inner hm)
  | true =>
    cases r2 with
    | false => exact together_r _ a b a2 b2 c d c2 d2 (us.map V.raw) (us2.map V.raw) ss ss2 w e1 e2 e3 e5 (by rw [List.length_map]; omega) (by omega) (k1.inner hn)
    | true =>
      have t := together_j a b a2 b2 c d c2 d2 us us2 ss ss2 w e1 e2 f1 f2 (fun u hu => (k1.ok u hu).p3) (fun u hu => (k2.ok u hu).p3) i3 i4 i1 i2 (fun l hl => by have := (k1.up l hl).2; omega) (fun l hl => by have := (k2.up l hl).2; omega)
      rw [List.length_map, List.length_map]
      exact t
set_option maxRecDepth 100000 in
set_option maxHeartbeats 4000000 in
theorem join_S {w : World} {v1 v2 : Value} {x y : VS} {n m : Nat} (h1 : Rs w v1 x.raw) (h2 : Rs w v2 y.raw) (k1 : VOk n x) (k2 : VOk m y) (hn : n ≤ 5000) (hm : m ≤ 5000) :
    Calls Try.prog 14 #[v1, v2] w fun e w' => ∃ v, e = .returned v ∧ Rn w' w.heap.size v (togV joinV x y).raw ∧ Below w.heap.size w w' := by
  have cT : ∀ w', Below w.heap.size w w' → _ := fun w' h => tog_joinV (h1.keep h) (h2.keep h) k1 k2 hn hm
  obtain ⟨a, c, b, d, rfl, -⟩ := h1
  obtain ⟨a2, c2, b2, d2, rfl, -⟩ := h2
  obtain ⟨z, hz⟩ : ∃ z, z = togV joinV x y := ⟨_, rfl⟩
  rw [← hz] at cT ⊢
  clear hz
  obtain ⟨r, vs, ss, hx⟩ : ∃ r vs ss, x.raw = ⟨r, vs, ss⟩ := ⟨_, _, _, rfl⟩
  obtain ⟨r2, vs2, ss2, hy⟩ : ∃ r vs ss, y.raw = ⟨r, vs, ss⟩ := ⟨_, _, _, rfl⟩
  rw [hx, hy] at cT
  rw [hx, hy]
  dsimp only at cT ⊢
  clear hx hy k1 k2
  obtain ⟨zr, zv, zs, hz⟩ : ∃ r vs ss, z.raw = ⟨r, vs, ss⟩ := ⟨_, _, _, rfl⟩
  rw [hz] at cT ⊢
  clear hz
  go_enter Try.func14, Try.ntmps14
  go_upto_region 1 with fail
  go_name_world W hW
  obtain ⟨q5, h5⟩ : ∃ z9, z9 = w.heap.size + 1 + 1 := ⟨_, rfl⟩
  rw [← h5]
  obtain ⟨q1, h1⟩ : ∃ z9, z9 = w.heap.size + 1 := ⟨_, rfl⟩
  rw [← h1]
  obtain ⟨q0, h0⟩ : ∃ z9, z9 = w.heap.size := ⟨_, rfl⟩
  rw [← h0]
  obtain ⟨B0, -, B1, -, B2, F2, u⟩ := boxes3 w _ _ _ _ _ _ _ _ _ _ _ _ W hW
  rw [← h0] at B0
  rw [← h1] at B1
  rw [← h5] at B2 F2
  have HB5 := hide (And.intro B2 F2)
  have HU := hide u
  have HQ5 : Hid (w.heap.size ≤ q5) := hide (by omega)
  have e0 := B0.c0
  have e1 := B0.c1
  have e2 := B0.c2
  have x0 := B1.c0
  have x1 := B1.c1
  have x2 := B1.c2
  clear hW h5 h1 h0 B0 B1 B2 F2 u
  go_wp2_with (go_at_call 43; refine (cT _ HU.out).mono ?_; rintro e wB ⟨v, rfl, hR, hB⟩; have hR2 := hide hR; obtain ⟨a5, c5, b5, d5, hv5, -⟩ := hR; subst hv5; dsimp only at hR2 ⊢; have z := HB5.out.1.keep hB; have y := HB5.out.2.of (hB.block q5 HB5.out.1.lt); have z0 := z.c0; have z1 := z.c1; have z2 := z.c2; have y0 := y.f0; have y1 := y.f1; have y2 := y.f2; have HZ := hide z; have HBB := hide hB; clear z y hB cT e0 e1 e2 x0 x1 x2)
  have x := HZ.out.put3 zr (.slice a5 zv.length c5) (.slice b5 zs.length d5)
  have x0 := x.c0
  have x1 := x.c1
  have x2 := x.c2
  clear z0 z1 z2 y0 y1 y2
  exact bodyPost_ret (by simp [results, Try.results14, go_sem, x0, x1, x2]; try rfl) rfl ⟨_, rfl, (hR2.out.st3 HB5.out.1.lt _ _ _).mono HU.out.size, st3_below (HU.out.trans (HBB.out.mono HU.out.size)) q5 HQ5.out _ _ _⟩
/-- widen_S -/
theorem tog_widenV {w : World} {v1 v2 : Value} {x y : VS} {n m : Nat} (h1 : Rs w v1 x.raw) (h2 : Rs w v2 y.raw) (k1 : VOk n x) (k2 : VOk m y) (hn : n ≤ 5000) (hm : m ≤ 5000) :
    Calls Try.prog 43 #[v1, v2, .func (.func 46) #[] #[]] w fun e w' => ∃ v, e = .returned v ∧ Rn w' w.heap.size v (togV widenV x y).raw ∧ Below w.heap.size w w' := by
  obtain ⟨a, c, b, d, rfl, e1, e2, e3, e4, e5, e6⟩ := h1
  obtain ⟨a2, c2, b2, d2, rfl, f1, f2, f3, f4, f5, f6⟩ := h2
  obtain ⟨r, us, ss⟩ := x
  obtain ⟨r2, us2, ss2⟩ := y
  have i1 := k1.len
  have i2 := k2.len
  have i3 := k1.le
  have i4 := k2.le
  dsimp only [VS.raw] at *
  cases r with
  | false => exact together_l _ a b a2 b2 c d c2 d2 r2 (us.map V.raw) (us2.map V.raw) ss ss2 w f1 f2 f3 f5 (by rw [List.length_map]; omega) (by omega) (k2.inner hm)
  | true =>
    cases r2 with
    | false => exact together_r _ a b a2 b2 c d c2 d2 (us.map V.raw) (us2.map V.raw) ss ss2 w e1 e2 e3 e5 (by rw [List.length_map]; omega) (by omega) (k1.inner hn)
    | true =>
      have t := together_w a b a2 b2 c d c2 d2 us us2 ss ss2 w e1 e2 f1 f2 (fun u hu => (k1.ok u hu).p3) (fun u hu => (k2.ok u hu).p3) i3 i4 i1 i2 (fun l hl => by have := (k1.up l hl).2; omega) (fun l hl => by have := (k2.up l hl).2; omega)
      rw [List.length_map, List.length_map]
      exact t
set_option maxRecDepth 100000 in
set_option maxHeartbeats 4000000 in
theorem widen_S {w : World} {v1 v2 : Value} {x y : VS} {n m : Nat} (h1 : Rs w v1 x.raw) (h2 : Rs w v2 y.raw) (k1 : VOk n x) (k2 : VOk m y) (hn : n ≤ 5000) (hm : m ≤ 5000) :
    Calls Try.prog 16 #[v1, v2] w fun e w' => ∃ v, e = .returned v ∧ Rn w' w.heap.size v (togV widenV x y).raw ∧ Below w.heap.size w w' := by
  have cT : ∀ w', Below w.heap.size w w' → _ := fun w' h => tog_widenV (h1.keep h) (h2.keep h) k1 k2 hn hm
  obtain ⟨a, c, b, d, rfl, -⟩ := h1
  obtain ⟨a2, c2, b2, d2, rfl, -⟩ := h2
  obtain ⟨z, hz⟩ : ∃ z, z = togV widenV x y := ⟨_, rfl⟩
  rw [← hz] at cT ⊢
  clear hz
  obtain ⟨r, vs, ss, hx⟩ : ∃ r vs ss, x.raw = ⟨r, vs, ss⟩ := ⟨_, _, _, rfl⟩
  obtain ⟨r2, vs2, ss2, hy⟩ : ∃ r vs ss, y.raw = ⟨r, vs, ss⟩ := ⟨_, _, _, rfl⟩
  rw [hx, hy] at cT
  rw [hx, hy]
  dsimp only at cT ⊢
  clear hx hy k1 k2
  obtain ⟨zr, zv, zs, hz⟩ : ∃ r vs ss, z.raw = ⟨r, vs, ss⟩ := ⟨_, _, _, rfl⟩
  rw [hz] at cT ⊢
  clear hz
  go_enter Try.func16, Try.ntmps16
  go_upto_region 1 with fail
  go_name_world W hW
  obtain ⟨q5, h5⟩ : ∃ z9, z9 = w.heap.size + 1 + 1 := ⟨_, rfl⟩
  rw [← h5]
  obtain ⟨q1, h1⟩ : ∃ z9, z9 = w.heap.size + 1 := ⟨_, rfl⟩
  rw [← h1]
  obtain ⟨q0, h0⟩ : ∃ z9, z9 = w.heap.size := ⟨_, rfl⟩
  rw [← h0]
  obtain ⟨B0, -, B1, -, B2, F2, u⟩ := boxes3 w _ _ _ _ _ _ _ _ _ _ _ _ W hW
  rw [← h0] at B0
  rw [← h1] at B1
  rw [← h5] at B2 F2
  have HB5 := hide (And.intro B2 F2)
  have HU := hide u
  have HQ5 : Hid (w.heap.size ≤ q5) := hide (by omega)
  have e0 := B0.c0
  have e1 := B0.c1
  have e2 := B0.c2
  have x0 := B1.c0
  have x1 := B1.c1
  have x2 := B1.c2
  clear hW h5 h1 h0 B0 B1 B2 F2 u
  go_wp2_with (go_at_call 43; refine (cT _ HU.out).mono ?_; rintro e wB ⟨v, rfl, hR, hB⟩; have hR2 := hide hR; obtain ⟨a5, c5, b5, d5, hv5, -⟩ := hR; subst hv5; dsimp only at hR2 ⊢; have z := HB5.out.1.keep hB; have y := HB5.out.2.of (hB.block q5 HB5.out.1.lt); have z0 := z.c0; have z1 := z.c1; have z2 := z.c2; have y0 := y.f0; have y1 := y.f1; have y2 := y.f2; have HZ := hide z; have HBB := hide hB; clear z y hB cT e0 e1 e2 x0 x1 x2)
  have x := HZ.out.put3 zr (.slice a5 zv.length c5) (.slice b5 zs.length d5)
  have x0 := x.c0
  have x1 := x.c1
  have x2 := x.c2
  clear z0 z1 z2 y0 y1 y2
  exact bodyPost_ret (by simp [results, Try.results16, go_sem, x0, x1, x2]; try rfl) rfl ⟨_, rfl, (hR2.out.st3 HB5.out.1.lt _ _ _).mono HU.out.size, st3_below (HU.out.trans (HBB.out.mono HU.out.size)) q5 HQ5.out _ _ _⟩
end Go.Proofs.Ytmhicllhjiglkaa
namespace Go.Proofs.Ytmhicllhjiglkaa
open Go.RowKit
/-- a slice of numbers that lies in none of these blocks -/
def Rlp (w : World) (L : List Nat) (e : Value) (l : List Int) : Prop := ∃ a c, e = .slice a l.length c ∧ (∀ (i : Nat) (y : Int), l[i]? = some y → ∃ b o, a = some ⟨b, o, none⟩ ∧ b ∉ L ∧ w.cell? ⟨b, o + i, none⟩ = some (.int .i64 y)) ∧ l.length ≤ c ∧ (a = none → c = 0)
/-- a State as a value, whose rows lie in none of these blocks -/
def Rp (w : World) (L : List Nat) (v : Value) (s : S) : Prop := ∃ a c b d, v = .agg #[.bool s.r, .slice a s.vs.length c, .slice b s.ss.length d] ∧
  (∀ (m : Nat) (x : R), s.vs[m]? = some x → ∃ b o, a = some ⟨b, o, none⟩ ∧ b ∉ L ∧ B6 w b (o + m * 6) x) ∧
  (∀ (m : Nat) (l : List Int), s.ss[m]? = some l → ∃ b' o e, b = some ⟨b', o, none⟩ ∧ b' ∉ L ∧ w.cell? ⟨b', o + m, none⟩ = some e ∧ Rlp w L e l) ∧
  s.vs.length ≤ c ∧ s.ss.length ≤ d ∧ (a = none → c = 0) ∧ (b = none → d = 0)
theorem Rp.rs {w : World} {L : List Nat} {v : Value} {s : S} (h : Rp w L v s) : Rs w v s := by
  obtain ⟨a, c, b, d, h1, h2, h3, h4⟩ := h
  refine ⟨a, c, b, d, h1, fun m x hx => ?_, fun m l hl => ?_, h4⟩
  · obtain ⟨b1, o1, e1, _, e2⟩ := h2 m x hx
    exact ⟨b1, o1, e1, e2⟩
  · obtain ⟨b1, o1, e, e1, _, e2, ai, ci, rfl, e3, e4⟩ := h3 m l hl
    refine ⟨b1, o1, _, e1, e2, ai, ci, rfl, fun i y hy => ?_, e4⟩
    obtain ⟨b2, o2, rfl, _, hc⟩ := e3 i y hy
    exact ⟨b2, o2, rfl, hc⟩
theorem Rn.rp {w : World} {N : Nat} {v : Value} {s : S} (h : Rn w N v s) {L : List Nat} (hL : ∀ k ∈ L, k < N) : Rp w L v s := by
  obtain ⟨a, c, b, d, h1, h2, h3, h4⟩ := h
  refine ⟨a, c, b, d, h1, fun m x hx => ?_, fun m l hl => ?_, h4⟩
  · obtain ⟨b1, o1, e1, e0, e2⟩ := h2 m x hx
    exact ⟨b1, o1, e1, fun t => by have := hL _ t; omega, e2⟩
  · obtain ⟨b1, o1, e, e1, e0, e2, ⟨ai, ci, rfl, e3, e5⟩, e4⟩ := h3 m l hl
    refine ⟨b1, o1, _, e1, fun t => by have := hL _ t; omega, e2, ai, ci, rfl, fun i y hy => ?_, e5⟩
    obtain ⟨b2, o2, rfl, hc⟩ := e3 i y hy
    exact ⟨b2, o2, rfl, fun t => by have := hL _ t; have := e4 b2 rfl; omega, hc⟩
/-- it stays where all blocks that stood stay, but these -/
theorem Rp.of {w w' : World} {L L' : List Nat} {v : Value} {s : S} (h : Rp w L v s) (hL : ∀ k ∈ L', k ∈ L ∨ w.heap.size ≤ k) (hb : ∀ k, k ∉ L → k < w.heap.size → w'.heap[k]? = w.heap[k]?) : Rp w' L' v s := by
  obtain ⟨a, c, b, d, h1, h2, h3, h4⟩ := h
  have nin : ∀ k, k ∉ L → k < w.heap.size → k ∉ L' := fun k h1 h2 h3 => by rcases hL k h3 with t | t; exact h1 t; omega
  refine ⟨a, c, b, d, h1, fun m x hx => ?_, fun m l hl => ?_, h4⟩
  · obtain ⟨b1, o1, e1, e0, e2⟩ := h2 m x hx
    exact ⟨b1, o1, e1, nin _ e0 e2.lt, e2.of (hb b1 e0 e2.lt)⟩
  · obtain ⟨b1, o1, e, e1, e0, e2, ai, ci, rfl, k1, k2⟩ := h3 m l hl
    have l1 := World.block_lt_of_cell? w _ e2
    refine ⟨b1, o1, _, e1, nin _ e0 l1, (World.cell?_of_block (a := ⟨b1, o1 + m, none⟩) (hb b1 e0 l1)).trans e2, ai, ci, rfl, fun i y hy => ?_, k2⟩
    obtain ⟨b2, o2, rfl, e5, hc⟩ := k1 i y hy
    have l2 := World.block_lt_of_cell? w _ hc
    exact ⟨b2, o2, rfl, nin _ e5 l2, (World.cell?_of_block (a := ⟨b2, o2 + i, none⟩) (hb b2 e5 l2)).trans hc⟩
theorem Bs.far3 {w : World} {q p : Nat} {r : Bool} {va sa : Value} (h : Bs w q r va sa) (hp : q ≠ p) (r1 : Bool) (va1 sa1 : Value) : Bs (st3 w p r1 va1 sa1) q r va sa := h.of (st3_block w p r1 va1 sa1 q hp)
end Go.Proofs.Ytmhicllhjiglkaa
namespace Go.Proofs.Ytmhicllhjiglkaa
open Go.RowKit
/-- two boxes that were made, and all else below M as in W -/
structure Tw (N M : Nat) (w0 W w : World) (p q : Nat) (r0 : Bool) (a0 b0 : Value) (r1 : Bool) (a1 b1 : Value) : Prop where
  b0 : Bs w p r0 a0 b0
  f0 : Fs w p
  b1 : Bs w q r1 a1 b1
  f1 : Fs w q
  bel : Below N w0 w
  pN : N ≤ p
  qN : N ≤ q
  pM : p < M
  qM : q < M
  ne : p ≠ q
  le : M ≤ w.heap.size
  fr : ∀ k, k < M → k ≠ p → k ≠ q → w.heap[k]? = W.heap[k]?
theorem Tw.keep {N M : Nat} {w0 W w w' : World} {p q : Nat} {r0 : Bool} {a0 b0 : Value} {r1 : Bool} {a1 b1 : Value} (h : Tw N M w0 W w p q r0 a0 b0 r1 a1 b1) (hb : Below w.heap.size w w') : Tw N M w0 W w' p q r0 a0 b0 r1 a1 b1 :=
  ⟨h.b0.keep hb, h.f0.of (hb.block _ h.b0.lt), h.b1.keep hb, h.f1.of (hb.block _ h.b1.lt), h.bel.trans (hb.mono (Nat.le_trans (Nat.le_trans h.pN (Nat.le_of_lt h.pM)) h.le)), h.pN, h.qN, h.pM, h.qM, h.ne, Nat.le_trans h.le hb.size, fun k hk h1 h2 => (hb.block k (Nat.lt_of_lt_of_le hk h.le)).trans (h.fr k hk h1 h2)⟩
theorem Tw.putp {N M : Nat} {w0 W w : World} {p q : Nat} {r0 : Bool} {a0 b0 : Value} {r1 : Bool} {a1 b1 : Value} (h : Tw N M w0 W w p q r0 a0 b0 r1 a1 b1) (r : Bool) (a b : Value) : Tw N M w0 W (st3 w p r a b) p q r a b r1 a1 b1 :=
  ⟨h.b0.put3 _ _ _, h.f0.put3 _ _ _, h.b1.far3 (fun e => h.ne e.symm) _ _ _, h.f1.put3 _ _ _, st3_below h.bel p h.pN _ _ _, h.pN, h.qN, h.pM, h.qM, h.ne, by rw [st3_size]; exact h.le, fun k hk h1 h2 => (st3_block w p r a b k h1).trans (h.fr k hk h1 h2)⟩
theorem Tw.putq {N M : Nat} {w0 W w : World} {p q : Nat} {r0 : Bool} {a0 b0 : Value} {r1 : Bool} {a1 b1 : Value} (h : Tw N M w0 W w p q r0 a0 b0 r1 a1 b1) (r : Bool) (a b : Value) : Tw N M w0 W (st3 w q r a b) p q r0 a0 b0 r a b :=
  ⟨h.b0.far3 h.ne _ _ _, h.f0.put3 _ _ _, h.b1.put3 _ _ _, h.f1.put3 _ _ _, st3_below h.bel q h.qN _ _ _, h.pN, h.qN, h.pM, h.qM, h.ne, by rw [st3_size]; exact h.le, fun k hk h1 h2 => (st3_block w q r a b k h2).trans (h.fr k hk h1 h2)⟩
/-- a State that is made Right, whose rows lie from block M on -/
def Pre9 (w : World) (M : Nat) (v : Value) : Prop := ∃ (r : Bool) (a : Option Addr) (c : Nat) (b : Option Addr) (d : Nat) (x : VS), v = .agg #[.bool r, .slice a x.us.length c, .slice b x.ss.length d] ∧ r = x.r ∧ Rn w M v x.raw ∧ SOk x.raw x.us 6 70
theorem Pre9.keep {w w' : World} {M : Nat} {v : Value} (h : Pre9 w M v) (hb : Below w.heap.size w w') : Pre9 w' M v := by
  obtain ⟨r, a, c, b, d, x, h1, h2, h3, h4⟩ := h
  exact ⟨r, a, c, b, d, x, h1, h2, h3.keep hb, h4⟩
theorem fix_pre9 {w0 : World} {a b : Option Addr} {c d : Nat} {r : Bool} {vs : List R} {ss : List (List Int)} (hv : RV w0 a vs) (hs : RR w0 b ss) (hvi : ∀ (m : Nat) (x : R), vs[m]? = some x → i64 x.n ∧ i64 x.lo ∧ i64 x.hi) (M : Nat) (w : World) (h : Below w0.heap.size w0 w) (hM : M ≤ w.heap.size) :
    Calls Try.prog 10 #[.agg #[.bool r, .slice a vs.length c, .slice b ss.length d]] w fun e w' => ∃ v, e = .returned v ∧ Below w.heap.size w w' ∧ Pre9 w' M v := by
  refine (fix_any a b c d r vs ss w (hv.keep h) (hs.keep h) hvi).mono ?_
  rintro e w'' ⟨v, rfl, hB, s, hR, us, hO⟩
  obtain ⟨a', c', b', d', e', -⟩ := id hR
  have e1 := (hO.vok (by omega)).1
  refine ⟨v, rfl, hB, s.r, a', c', b', d', ⟨s.r, us, s.ss⟩, ?_, rfl, ?_, ?_⟩
  · rw [e', hO.vs, List.length_map]
  · rw [← e1]; exact hR.mono hM
  · rw [← e1]; exact hO
end Go.Proofs.Ytmhicllhjiglkaa
namespace Go.Proofs.Ytmhicllhjiglkaa
open Go.RowKit
abbrev fxAct3 (X0 X1 : Value) (p q : Nat) (y7 y8 y9 y10 : Value) : Act := { tmps := #[X0, X1, .pointer (some ⟨p, 0, none⟩), .pointer (some ⟨q, 0, none⟩), .bool false, undef, undef, y7, y8, y9, y10, undef, undef, undef, undef, undef, undef, undef, undef, undef, undef, undef, undef, undef, undef, undef, undef, undef, undef, undef, undef, undef, undef, undef, undef, undef, undef, undef, undef, undef, undef, undef, undef, undef, undef, undef, undef, undef, undef, undef, undef, undef, undef, undef, undef, undef, undef, undef, undef, undef, undef, undef, undef, undef, undef, undef, undef, undef, undef], defers := [] }
set_option maxRecDepth 100000 in
set_option maxHeartbeats 8000000 in
theorem fx3 {Q0 : Exit → Act → World → Prop} (X0 X1 : Value) (N M : Nat) (w0 W : World) (p q : Nat) (r0 : Bool) (a0 b0 : Value) (r1 : Bool) (a1 b1 : Value) (cA : ∀ w, Below N w0 w → M ≤ w.heap.size → Calls Try.prog 10 #[.agg #[.bool r0, a0, b0]] w fun e w' => ∃ v, e = .returned v ∧ Below w.heap.size w w' ∧ Pre9 w' M v) (cB : ∀ w, Below N w0 w → M ≤ w.heap.size → Calls Try.prog 10 #[.agg #[.bool r1, a1, b1]] w fun e w' => ∃ v, e = .returned v ∧ Below w.heap.size w w' ∧ Pre9 w' M v)
    (hQ : ∀ (v : World) (q0 : Bool) (v0 s0 : Value) (q1 : Bool) (v1 s1 : Value) (x0 x1 : VS), Tw N M w0 W v p q q0 v0 s0 q1 v1 s1 → Rn v M (.agg #[.bool q0, v0, s0]) x0.raw → Rn v M (.agg #[.bool q1, v1, s1]) x1.raw → SOk x0.raw x0.us 6 70 → SOk x1.raw x1.us 6 70 → Q0 .normal (fxAct3 X0 X1 p q (.agg #[.bool r0, a0, b0]) (.agg #[.bool q0, v0, s0]) (.agg #[.bool r1, a1, b1]) (.agg #[.bool q1, v1, s1])) v)
    (V : World) (hT : Tw N M w0 W V p q r0 a0 b0 r1 a1 b1) : (Code.region 1 #[{ dst := some 7, op := Op.load 25 (Operand.tmp 2), type := 25, pos := "law.go:49", after := #[], guard := none }, { dst := some 8, op := Op.call { callee := Callee.value (Operand.func 10), args := #[Operand.tmp 7], argTypes := #[25] }, type := 25, pos := "law.go:49", after := #[{ on := 0, ground := Ground.data }], guard := none }, { dst := some 9, op := Op.load 25 (Operand.tmp 3), type := 25, pos := "law.go:49", after := #[], guard := none }, { dst := some 10, op := Op.call { callee := Callee.value (Operand.func 10), args := #[Operand.tmp 9], argTypes := #[25] }, type := 25, pos := "law.go:49", after := #[{ on := 2, ground := Ground.data }, { on := 1, ground := Ground.chain }], guard := none }, { dst := none, op := Op.store 25 (Operand.tmp 2) (Operand.tmp 8), type := 0, pos := "law.go:49", after := #[{ on := 1, ground := Ground.data }, { on := 3, ground := Ground.chain }, { on := 0, ground := Ground.phase }, { on := 1, ground := Ground.phase }, { on := 2, ground := Ground.textOnly Departure.lateStores }, { on := 3, ground := Ground.textOnly Departure.lateStoresUnsure }], guard := none }, { dst := none, op := Op.store 25 (Operand.tmp 3) (Operand.tmp 10), type := 0, pos := "law.go:49", after := #[{ on := 3, ground := Ground.data }, { on := 4, ground := Ground.chain }, { on := 0, ground := Ground.phase }, { on := 1, ground := Ground.phase }, { on := 2, ground := Ground.phase }, { on := 3, ground := Ground.phase }, { on := 4, ground := Ground.phase }], guard := none }] true).wp Try.prog Q0 (fxAct3 X0 X1 p q undef undef undef undef) V := by
  dsimp only [fxAct3]
  refine wp_region_held_drew (S := fun w' => True) (by kernel_rfl) trivial (fun hH0 => ?_)
  obtain ⟨w0, hw0⟩ : ∃ w0, w0 = V.drew := ⟨_, rfl⟩
  (try rw [← hw0] at hH0)
  rw [← hw0]
  have T0 := hT.keep (Below.refl _ _).drew
  rw [← hw0] at T0
  clear hw0
  refine wpAnyH_ready (rs := [0, 2]) (by kernel_rfl) (by simp) ?_
  refine AllReadyH.cons (o := ({ dst := some 7, op := Op.load 25 (Operand.tmp 2), type := 25, pos := _, after := _, guard := _ } : Oper)) rfl (fun K hK => ?_) (AllReadyH.cons (o := ({ dst := some 9, op := Op.load 25 (Operand.tmp 3), type := 25, pos := _, after := _, guard := _ } : Oper)) rfl (fun K hK => ?_) AllReadyH.nil)
  · have zb := T0.b0
    have z0 := zb.c0
    have z1 := zb.c1
    have z2 := zb.c2
    go_simp
    refine hK.out _ _ trivial (fun _ => ?_)
    clear hK K zb z0 z1 z2
    refine wpAnyH_ready (rs := [1, 2]) (by kernel_rfl) (by simp) ?_
    refine AllReadyH.cons (o := ({ dst := some 8, op := Op.call { callee := Callee.value (Operand.func 10), args := #[Operand.tmp 7], argTypes := #[25] }, type := 25, pos := _, after := _, guard := _ } : Oper)) rfl (fun K hK => ?_) (AllReadyH.cons (o := ({ dst := some 9, op := Op.load 25 (Operand.tmp 3), type := 25, pos := _, after := _, guard := _ } : Oper)) rfl (fun K hK => ?_) AllReadyH.nil)
    · go_simp
      go_at_call 10
      refine (cA _ T0.bel T0.le).mono ?_
      rintro e w1 ⟨e0, rfl, hb1, P0_1⟩
      have T1 := T0.keep hb1
      refine hK.out _ _ trivial (fun _ => ?_)
      clear hK K
      refine wpAnyH_ready (rs := [2]) (by kernel_rfl) (by simp) ?_
      refine AllReadyH.cons (o := ({ dst := some 9, op := Op.load 25 (Operand.tmp 3), type := 25, pos := _, after := _, guard := _ } : Oper)) rfl (fun K hK => ?_) AllReadyH.nil
      · have zb := T1.b1
        have z0 := zb.c0
        have z1 := zb.c1
        have z2 := zb.c2
        go_simp
        refine hK.out _ _ trivial (fun _ => ?_)
        clear hK K zb z0 z1 z2
        refine wpAnyH_ready (rs := [3]) (by kernel_rfl) (by simp) ?_
        refine AllReadyH.cons (o := ({ dst := some 10, op := Op.call { callee := Callee.value (Operand.func 10), args := #[Operand.tmp 9], argTypes := #[25] }, type := 25, pos := _, after := _, guard := _ } : Oper)) rfl (fun K hK => ?_) AllReadyH.nil
        · go_simp
          go_at_call 10
          refine (cB _ T1.bel T1.le).mono ?_
          rintro e w2 ⟨e1, rfl, hb2, P1_2⟩
          have T2 := T1.keep hb2
          have P0_2 := P0_1.keep hb2
          refine hK.out _ _ trivial (fun _ => ?_)
          clear hK K
          refine wpAnyH_ready (rs := [4]) (by kernel_rfl) (by simp) ?_
          refine AllReadyH.cons (o := ({ dst := none, op := Op.store 25 (Operand.tmp 2) (Operand.tmp 8), type := 0, pos := _, after := _, guard := _ } : Oper)) rfl (fun K hK => ?_) AllReadyH.nil
          · obtain ⟨q0, ya0, yc0, yb0, yd0, x0, rfl, -, R0, O0⟩ := P0_2
            obtain ⟨q1, ya1, yc1, yb1, yd1, x1, rfl, -, R1, O1⟩ := P1_2
            have zb := T2.b0
            have zf := T2.f0
            have z0 := zb.c0
            have z1 := zb.c1
            have z2 := zb.c2
            have y0 := zf.f0
            have y1 := zf.f1
            have y2 := zf.f2
            go_simp
            have U0 := T2.putp q0 (.slice ya0 x0.us.length yc0) (.slice yb0 x0.ss.length yd0)
            have R0 := R0.st3 T2.pM q0 (.slice ya0 x0.us.length yc0) (.slice yb0 x0.ss.length yd0)
            have R1 := R1.st3 T2.pM q0 (.slice ya0 x0.us.length yc0) (.slice yb0 x0.ss.length yd0)
            refine hK.out _ _ trivial (fun _ => ?_)
            clear hK K zb zf z0 z1 z2 y0 y1 y2
            unfold st3 at U0 R0 R1
            obtain ⟨u0, hu0⟩ : ∃ z9, z9 = ((w2.setCell ⟨p, 0, none⟩ (.bool q0)).setCell ⟨p, 1, none⟩ (.slice ya0 x0.us.length yc0)).setCell ⟨p, 2, none⟩ (.slice yb0 x0.ss.length yd0) := ⟨_, rfl⟩
            rw [← hu0] at U0 R0 R1 ⊢
            clear hu0
            refine wpAnyH_ready (rs := [5]) (by kernel_rfl) (by simp) ?_
            refine AllReadyH.cons (o := ({ dst := none, op := Op.store 25 (Operand.tmp 3) (Operand.tmp 10), type := 0, pos := _, after := _, guard := _ } : Oper)) rfl (fun K hK => ?_) AllReadyH.nil
            · have zb := U0.b1
              have zf := U0.f1
              have z0 := zb.c0
              have z1 := zb.c1
              have z2 := zb.c2
              have y0 := zf.f0
              have y1 := zf.f1
              have y2 := zf.f2
              go_simp
              have U1 := U0.putq q1 (.slice ya1 x1.us.length yc1) (.slice yb1 x1.ss.length yd1)
              have R0 := R0.st3 U0.qM q1 (.slice ya1 x1.us.length yc1) (.slice yb1 x1.ss.length yd1)
              have R1 := R1.st3 U0.qM q1 (.slice ya1 x1.us.length yc1) (.slice yb1 x1.ss.length yd1)
              refine hK.out _ _ trivial (fun _ => ?_)
              clear hK K zb zf z0 z1 z2 y0 y1 y2
              unfold st3 at U1 R0 R1
              obtain ⟨u1, hu1⟩ : ∃ z9, z9 = ((u0.setCell ⟨q, 0, none⟩ (.bool q1)).setCell ⟨q, 1, none⟩ (.slice ya1 x1.us.length yc1)).setCell ⟨q, 2, none⟩ (.slice yb1 x1.ss.length yd1) := ⟨_, rfl⟩
              rw [← hu1] at U1 R0 R1 ⊢
              clear hu1
              refine wpAnyH_done (by kernel_rfl) ?_ _
              exact hQ _ _ _ _ _ _ _ x0 x1 U1 R0 R1 O0 O1
    · have zb := T0.b1
      have z0 := zb.c0
      have z1 := zb.c1
      have z2 := zb.c2
      go_simp
      refine hK.out _ _ trivial (fun _ => ?_)
      clear hK K zb z0 z1 z2
      refine wpAnyH_ready (rs := [1]) (by kernel_rfl) (by simp) ?_
      refine AllReadyH.cons (o := ({ dst := some 8, op := Op.call { callee := Callee.value (Operand.func 10), args := #[Operand.tmp 7], argTypes := #[25] }, type := 25, pos := _, after := _, guard := _ } : Oper)) rfl (fun K hK => ?_) AllReadyH.nil
      · go_simp
        go_at_call 10
        refine (cA _ T0.bel T0.le).mono ?_
        rintro e w1 ⟨e0, rfl, hb1, P0_1⟩
        have T1 := T0.keep hb1
        refine hK.out _ _ trivial (fun _ => ?_)
        clear hK K
        refine wpAnyH_ready (rs := [3]) (by kernel_rfl) (by simp) ?_
        refine AllReadyH.cons (o := ({ dst := some 10, op := Op.call { callee := Callee.value (Operand.func 10), args := #[Operand.tmp 9], argTypes := #[25] }, type := 25, pos := _, after := _, guard := _ } : Oper)) rfl (fun K hK => ?_) AllReadyH.nil
        · go_simp
          go_at_call 10
          refine (cB _ T1.bel T1.le).mono ?_
          rintro e w2 ⟨e1, rfl, hb2, P1_2⟩
          have T2 := T1.keep hb2
          have P0_2 := P0_1.keep hb2
          refine hK.out _ _ trivial (fun _ => ?_)
          clear hK K
          refine wpAnyH_ready (rs := [4]) (by kernel_rfl) (by simp) ?_
          refine AllReadyH.cons (o := ({ dst := none, op := Op.store 25 (Operand.tmp 2) (Operand.tmp 8), type := 0, pos := _, after := _, guard := _ } : Oper)) rfl (fun K hK => ?_) AllReadyH.nil
          · obtain ⟨q0, ya0, yc0, yb0, yd0, x0, rfl, -, R0, O0⟩ := P0_2
            obtain ⟨q1, ya1, yc1, yb1, yd1, x1, rfl, -, R1, O1⟩ := P1_2
            have zb := T2.b0
            have zf := T2.f0
            have z0 := zb.c0
            have z1 := zb.c1
            have z2 := zb.c2
            have y0 := zf.f0
            have y1 := zf.f1
            have y2 := zf.f2
            go_simp
            have U0 := T2.putp q0 (.slice ya0 x0.us.length yc0) (.slice yb0 x0.ss.length yd0)
            have R0 := R0.st3 T2.pM q0 (.slice ya0 x0.us.length yc0) (.slice yb0 x0.ss.length yd0)
            have R1 := R1.st3 T2.pM q0 (.slice ya0 x0.us.length yc0) (.slice yb0 x0.ss.length yd0)
            refine hK.out _ _ trivial (fun _ => ?_)
            clear hK K zb zf z0 z1 z2 y0 y1 y2
            unfold st3 at U0 R0 R1
            obtain ⟨u0, hu0⟩ : ∃ z9, z9 = ((w2.setCell ⟨p, 0, none⟩ (.bool q0)).setCell ⟨p, 1, none⟩ (.slice ya0 x0.us.length yc0)).setCell ⟨p, 2, none⟩ (.slice yb0 x0.ss.length yd0) := ⟨_, rfl⟩
            rw [← hu0] at U0 R0 R1 ⊢
            clear hu0
            refine wpAnyH_ready (rs := [5]) (by kernel_rfl) (by simp) ?_
            refine AllReadyH.cons (o := ({ dst := none, op := Op.store 25 (Operand.tmp 3) (Operand.tmp 10), type := 0, pos := _, after := _, guard := _ } : Oper)) rfl (fun K hK => ?_) AllReadyH.nil
            · have zb := U0.b1
              have zf := U0.f1
              have z0 := zb.c0
              have z1 := zb.c1
              have z2 := zb.c2
              have y0 := zf.f0
              have y1 := zf.f1
              have y2 := zf.f2
              go_simp
              have U1 := U0.putq q1 (.slice ya1 x1.us.length yc1) (.slice yb1 x1.ss.length yd1)
              have R0 := R0.st3 U0.qM q1 (.slice ya1 x1.us.length yc1) (.slice yb1 x1.ss.length yd1)
              have R1 := R1.st3 U0.qM q1 (.slice ya1 x1.us.length yc1) (.slice yb1 x1.ss.length yd1)
              refine hK.out _ _ trivial (fun _ => ?_)
              clear hK K zb zf z0 z1 z2 y0 y1 y2
              unfold st3 at U1 R0 R1
              obtain ⟨u1, hu1⟩ : ∃ z9, z9 = ((u0.setCell ⟨q, 0, none⟩ (.bool q1)).setCell ⟨q, 1, none⟩ (.slice ya1 x1.us.length yc1)).setCell ⟨q, 2, none⟩ (.slice yb1 x1.ss.length yd1) := ⟨_, rfl⟩
              rw [← hu1] at U1 R0 R1 ⊢
              clear hu1
              refine wpAnyH_done (by kernel_rfl) ?_ _
              exact hQ _ _ _ _ _ _ _ x0 x1 U1 R0 R1 O0 O1
  · have zb := T0.b1
    have z0 := zb.c0
    have z1 := zb.c1
    have z2 := zb.c2
    go_simp
    refine hK.out _ _ trivial (fun _ => ?_)
    clear hK K zb z0 z1 z2
    refine wpAnyH_ready (rs := [0]) (by kernel_rfl) (by simp) ?_
    refine AllReadyH.cons (o := ({ dst := some 7, op := Op.load 25 (Operand.tmp 2), type := 25, pos := _, after := _, guard := _ } : Oper)) rfl (fun K hK => ?_) AllReadyH.nil
    · have zb := T0.b0
      have z0 := zb.c0
      have z1 := zb.c1
      have z2 := zb.c2
      go_simp
      refine hK.out _ _ trivial (fun _ => ?_)
      clear hK K zb z0 z1 z2
      refine wpAnyH_ready (rs := [1]) (by kernel_rfl) (by simp) ?_
      refine AllReadyH.cons (o := ({ dst := some 8, op := Op.call { callee := Callee.value (Operand.func 10), args := #[Operand.tmp 7], argTypes := #[25] }, type := 25, pos := _, after := _, guard := _ } : Oper)) rfl (fun K hK => ?_) AllReadyH.nil
      · go_simp
        go_at_call 10
        refine (cA _ T0.bel T0.le).mono ?_
        rintro e w1 ⟨e0, rfl, hb1, P0_1⟩
        have T1 := T0.keep hb1
        refine hK.out _ _ trivial (fun _ => ?_)
        clear hK K
        refine wpAnyH_ready (rs := [3]) (by kernel_rfl) (by simp) ?_
        refine AllReadyH.cons (o := ({ dst := some 10, op := Op.call { callee := Callee.value (Operand.func 10), args := #[Operand.tmp 9], argTypes := #[25] }, type := 25, pos := _, after := _, guard := _ } : Oper)) rfl (fun K hK => ?_) AllReadyH.nil
        · go_simp
          go_at_call 10
          refine (cB _ T1.bel T1.le).mono ?_
          rintro e w2 ⟨e1, rfl, hb2, P1_2⟩
          have T2 := T1.keep hb2
          have P0_2 := P0_1.keep hb2
          refine hK.out _ _ trivial (fun _ => ?_)
          clear hK K
          refine wpAnyH_ready (rs := [4]) (by kernel_rfl) (by simp) ?_
          refine AllReadyH.cons (o := ({ dst := none, op := Op.store 25 (Operand.tmp 2) (Operand.tmp 8), type := 0, pos := _, after := _, guard := _ } : Oper)) rfl (fun K hK => ?_) AllReadyH.nil
          · obtain ⟨q0, ya0, yc0, yb0, yd0, x0, rfl, -, R0, O0⟩ := P0_2
            obtain ⟨q1, ya1, yc1, yb1, yd1, x1, rfl, -, R1, O1⟩ := P1_2
            have zb := T2.b0
            have zf := T2.f0
            have z0 := zb.c0
            have z1 := zb.c1
            have z2 := zb.c2
            have y0 := zf.f0
            have y1 := zf.f1
            have y2 := zf.f2
            go_simp
            have U0 := T2.putp q0 (.slice ya0 x0.us.length yc0) (.slice yb0 x0.ss.length yd0)
            have R0 := R0.st3 T2.pM q0 (.slice ya0 x0.us.length yc0) (.slice yb0 x0.ss.length yd0)
            have R1 := R1.st3 T2.pM q0 (.slice ya0 x0.us.length yc0) (.slice yb0 x0.ss.length yd0)
            refine hK.out _ _ trivial (fun _ => ?_)
            clear hK K zb zf z0 z1 z2 y0 y1 y2
            unfold st3 at U0 R0 R1
            obtain ⟨u0, hu0⟩ : ∃ z9, z9 = ((w2.setCell ⟨p, 0, none⟩ (.bool q0)).setCell ⟨p, 1, none⟩ (.slice ya0 x0.us.length yc0)).setCell ⟨p, 2, none⟩ (.slice yb0 x0.ss.length yd0) := ⟨_, rfl⟩
            rw [← hu0] at U0 R0 R1 ⊢
            clear hu0
            refine wpAnyH_ready (rs := [5]) (by kernel_rfl) (by simp) ?_
            refine AllReadyH.cons (o := ({ dst := none, op := Op.store 25 (Operand.tmp 3) (Operand.tmp 10), type := 0, pos := _, after := _, guard := _ } : Oper)) rfl (fun K hK => ?_) AllReadyH.nil
            · have zb := U0.b1
              have zf := U0.f1
              have z0 := zb.c0
              have z1 := zb.c1
              have z2 := zb.c2
              have y0 := zf.f0
              have y1 := zf.f1
              have y2 := zf.f2
              go_simp
              have U1 := U0.putq q1 (.slice ya1 x1.us.length yc1) (.slice yb1 x1.ss.length yd1)
              have R0 := R0.st3 U0.qM q1 (.slice ya1 x1.us.length yc1) (.slice yb1 x1.ss.length yd1)
              have R1 := R1.st3 U0.qM q1 (.slice ya1 x1.us.length yc1) (.slice yb1 x1.ss.length yd1)
              refine hK.out _ _ trivial (fun _ => ?_)
              clear hK K zb zf z0 z1 z2 y0 y1 y2
              unfold st3 at U1 R0 R1
              obtain ⟨u1, hu1⟩ : ∃ z9, z9 = ((u0.setCell ⟨q, 0, none⟩ (.bool q1)).setCell ⟨q, 1, none⟩ (.slice ya1 x1.us.length yc1)).setCell ⟨q, 2, none⟩ (.slice yb1 x1.ss.length yd1) := ⟨_, rfl⟩
              rw [← hu1] at U1 R0 R1 ⊢
              clear hu1
              refine wpAnyH_done (by kernel_rfl) ?_ _
              exact hQ _ _ _ _ _ _ _ x0 x1 U1 R0 R1 O0 O1
end Go.Proofs.Ytmhicllhjiglkaa
namespace Go.Proofs.Ytmhicllhjiglkaa
open Go.RowKit
theorem neq_val (x y : R) (h : x ≠ y) (w : World) : (binOp .neq 53 (aR x) (aR y)).run Try.prog w = .ok (.bool true) w := by
  obtain ⟨a, b, c, d, e, f⟩ := x
  obtain ⟨a', b', c', d', e', f'⟩ := y
  by_cases h0 : a = a'
  · subst h0
    by_cases h1 : b = b'
    · subst h1
      by_cases h2 : c = c'
      · subst h2
        by_cases h3 : d = d'
        · subst h3
          by_cases h4 : e = e'
          · subst h4
            by_cases h5 : f = f'
            · subst h5; exact absurd rfl h
            · simp [go_sem, h5]
          · simp [go_sem, h4]
        · simp [go_sem, h3]
      · simp [go_sem, h2]
    · simp [go_sem, h1]
  · simp [go_sem, h0]
theorem eq_val (x : R) (w : World) : (binOp .neq 53 (aR x) (aR x)).run Try.prog w = .ok (.bool false) w := by
  simp [go_sem]
theorem take_ext {α : Type} {l m : List α} {k : Nat} {x y : α} (h : l.take k = m.take k) (hx : l[k]? = some x) (hy : m[k]? = some y) : (x = y → l.take (k + 1) = m.take (k + 1)) ∧ (x ≠ y → l ≠ m) := by
  refine ⟨fun e => by rw [take_more hx, take_more hy, h, e], fun e t => ?_⟩
  subst t
  rw [hx] at hy
  exact e (Option.some.inj hy)
set_option maxRecDepth 100000 in
set_option maxHeartbeats 4000000 in
theorem vequal_any (vs ts : List R) (a b : Option Addr) (c d : Nat) (w : World) (hr : RV w a vs) (hs : RV w b ts) (hl1 : vs.length ≤ 100000) (_hl2 : ts.length ≤ 100000) :
    Calls Try.prog 54 #[.slice a vs.length c, .slice b ts.length d] w fun e w' => ∃ bv, e = .returned (.bool bv) ∧ (∃ n, w' = w.drewN n) ∧ (bv = true ↔ vs = ts) := by
  have HR := hide hr
  have HS := hide hs
  clear hr hs
  have i1 : (vs.length : Int) ≤ 100000 := by omega
  by_cases hl : vs.length = ts.length
  · have hb0 : ((vs.length : Int) != ts.length) = false := by simp [hl]
    have HLn := hide hl
    clear hl
    go_enter Try.func54, Try.ntmps54
    go_wp2_with fail
    clear hb0
    go_loopw [13] (fun sk wr => ∃ k n : Nat, wr = w.drewN n ∧ sk = .int .i64 k ∧ k ≤ vs.length ∧ Hid (vs.take k = ts.take k)) (fun sk _ => vs.length - (intOf sk).toNat)
    case atStart => exact ⟨0, 0, rfl, rfl, Nat.zero_le _, rfl⟩
    case round =>
      obtain ⟨k, n, rfl, rfl, hk, h4⟩ := hrel
      by_cases hkv : k < vs.length
      · have hkv2 : (k : Int) < vs.length := by omega
        have hkt : k < ts.length := by have := HLn.out; omega
        have hkt2 : (k : Int) < ts.length := by omega
        obtain ⟨b1, o1, x, hX, rfl, hx6⟩ := HR.out.at hkv
        obtain ⟨b2, o2, y, hY, rfl, hy6⟩ := HS.out.at hkt
        have ht := take_ext h4.out hX hY
        have d0 := hx6.c0
        have d1 := hx6.c1
        have d2 := hx6.c2
        have d3 := hx6.c3
        have d4 := hx6.c4
        have d5 := hx6.c5
        have g0 := hy6.c0
        have g1 := hy6.c1
        have g2 := hy6.c2
        have g3 := hy6.c3
        have g4 := hy6.c4
        have g5 := hy6.c5
        clear hX hY hx6 hy6
        by_cases hxy : x = y
        · subst hxy
          have HT := hide (ht.1 rfl)
          clear ht h4
          go_wp2
          go_quiet (fail)
          go_wp2
          exact ⟨⟨k + 1, n + nq, rfl, by simp, by omega, HT.out⟩, by simp [intOf]; omega⟩
        · have HT := hide (ht.2 hxy)
          have hne := neq_val x y hxy
          clear ht h4 hxy
          go_wp2
          go_quiet (fail)
          go_wp2
          go_ret
          exact ⟨false, rfl, ⟨n + nq, by simp⟩, by simp; exact HT.out⟩
      · have hke : k = vs.length := by omega
        subst hke
        have HE : Hid (vs = ts) := hide (by have t := h4.out; rw [List.take_of_length_le (Nat.le_refl _), List.take_of_length_le (by have := HLn.out; omega)] at t; exact t)
        go_wp2
        go_ret
        exact ⟨true, rfl, ⟨n, rfl⟩, by simp; exact HE.out⟩
  · have hb0 : ((vs.length : Int) != ts.length) = true := by rw [bne_iff_ne]; omega
    go_enter Try.func54, Try.ntmps54
    go_wp2
    go_ret
    exact ⟨false, rfl, ⟨0, rfl⟩, by simp; exact fun t => hl (by rw [t])⟩
set_option maxRecDepth 100000 in
set_option maxHeartbeats 4000000 in
theorem sequal_any (ss tt : List (List Int)) (a b : Option Addr) (c d : Nat) (w : World) (hr : RR w a ss) (hs : RR w b tt) (hl1 : ss.length ≤ 100000) (_hl2 : tt.length ≤ 100000) (hi1 : ∀ l ∈ ss, l.length ≤ 100000) (hi2 : ∀ l ∈ tt, l.length ≤ 100000) :
    Calls Try.prog 49 #[.slice a ss.length c, .slice b tt.length d, .func (.func 55) #[] #[]] w fun e w' => ∃ bv, e = .returned (.bool bv) ∧ (∃ n, w' = w.drewN n) ∧ (bv = true ↔ ss = tt) := by
  have HR := hide hr
  have HS := hide hs
  have HI := hide (And.intro hi1 hi2)
  clear hr hs hi1 hi2
  have i1 : (ss.length : Int) ≤ 100000 := by omega
  by_cases hl : ss.length = tt.length
  · have hb0 : ((ss.length : Int) != tt.length) = false := by simp [hl]
    have HLn := hide hl
    clear hl
    go_enter Try.func49, Try.ntmps49
    go_wp2_with fail
    clear hb0
    go_loopw [17] (fun sk wr => ∃ k n : Nat, wr = w.drewN n ∧ sk = .int .i64 k ∧ k ≤ ss.length ∧ Hid (ss.take k = tt.take k)) (fun sk _ => ss.length - (intOf sk).toNat)
    case atStart => exact ⟨0, 0, rfl, rfl, Nat.zero_le _, rfl⟩
    case round =>
      obtain ⟨k, n, rfl, rfl, hk, h4⟩ := hrel
      by_cases hkv : k < ss.length
      · have hkv2 : (k : Int) < ss.length := by omega
        have hkt : k < tt.length := by have := HLn.out; omega
        have hkt2 : (k : Int) < tt.length := by omega
        obtain ⟨b1, o1, l, ai, ci, hX, rfl, f1, f2, f3, f4⟩ := HR.out.at hkv
        obtain ⟨b2, o2, m, aj, cj, hY, rfl, f5, f6, f7, f8⟩ := HS.out.at hkt
        have ht := take_ext h4.out hX hY
        have hll := HI.out.1 l (List.mem_of_getElem? hX)
        have hlm := HI.out.2 m (List.mem_of_getElem? hY)
        have cS := bsame_any l m ai aj ci cj (w.drewN n) (f2.drewN n) (f6.drewN n) (by omega) (by omega)
        clear hX hY f2 f3 f4 f6 f7 f8
        by_cases hxy : l = m
        · have HT := hide (ht.1 hxy)
          rw [show sameL l m = true from decide_eq_true hxy] at cS
          clear ht h4 hxy
          go_wp2_with (go_at_call 55; refine cS.mono ?_; rintro e w' ⟨⟨j, rfl⟩, rfl⟩; clear cS)
          exact ⟨⟨k + 1, n + j, by simp, by simp, by omega, HT.out⟩, by simp [intOf]; omega⟩
        · have HT := hide (ht.2 hxy)
          rw [show sameL l m = false from decide_eq_false hxy] at cS
          clear ht h4 hxy
          go_wp2_with (go_at_call 55; refine cS.mono ?_; rintro e w' ⟨⟨j, rfl⟩, rfl⟩; clear cS)
          go_ret
          exact ⟨false, rfl, ⟨n + j, by simp⟩, by simp; exact HT.out⟩
      · have hke : k = ss.length := by omega
        subst hke
        have HE : Hid (ss = tt) := hide (by have t := h4.out; rw [List.take_of_length_le (Nat.le_refl _), List.take_of_length_le (by have := HLn.out; omega)] at t; exact t)
        go_wp2
        go_ret
        exact ⟨true, rfl, ⟨n, rfl⟩, by simp; exact HE.out⟩
  · have hb0 : ((ss.length : Int) != tt.length) = true := by rw [bne_iff_ne]; omega
    go_enter Try.func49, Try.ntmps49
    go_wp2
    go_ret
    exact ⟨false, rfl, ⟨0, rfl⟩, by simp; exact fun t => hl (by rw [t])⟩
end Go.Proofs.Ytmhicllhjiglkaa
