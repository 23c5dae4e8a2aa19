import Derived.Test.YtmhicllhjiglkaaG15
import Derived.Test.YtmhicllhjiglkaaG16
import Derived.Test.YtmhicllhjiglkaaG04
import Derived.Test.YtmhicllhjiglkaaG01
import Derived.Test.YtmhicllhjiglkaaG06
namespace Go.Proofs.Ytmhicllhjiglkaa
open Go.RowKit
/-- a State, told by Values that are Right -/
structure VS where
  r : Bool
  us : List V
  ss : List (List Int)
def VS.raw (x : VS) : S := ⟨x.r, x.us.map V.raw, x.ss⟩
/-- what is told of either -/
def togV (op : V → V → V) (x y : VS) : VS := if x.r = false then y else if y.r = false then x else ⟨true, List.zipWith op x.us y.us, List.zipWith uniL x.ss y.ss⟩
/-- a State that is Right, whose sets have n sites at most -/
structure VOk (n : Nat) (x : VS) : Prop where
  len : x.ss.length = x.us.length
  le : x.us.length ≤ 1000
  ok : ∀ u ∈ x.us, u.ok
  up : ∀ l ∈ x.ss, UpP l ∧ l.length ≤ n
  nr : x.r = false → x.us = []
theorem VOk.inner {n : Nat} {x : VS} (h : VOk n x) (hn : n ≤ 5000) : ∀ (m : Nat) (l : List Int), x.ss[m]? = some l → l.length ≤ 100000 := fun m l hm => by
  have := (h.up l (List.mem_of_getElem? hm)).2
  omega
/-- what fix makes -/
theorem SOk.vok {s : S} {us : List V} {n k : Nat} (h : SOk s us n k) (hn : n ≤ 1000) : s = (VS.mk s.r us s.ss).raw ∧ VOk 60 ⟨s.r, us, s.ss⟩ :=
  ⟨by obtain ⟨r, vs, ss⟩ := s; unfold VS.raw; dsimp only; rw [← h.vs], ⟨h.len, by have := h.le; dsimp only; omega, h.ok, fun l hl => ⟨(h.up l hl).1, (h.up l hl).2.2⟩, h.nr⟩⟩
/-- join_S -/
theorem tog_joinV {w : World} {v1 v2 : Value} {x y : VS} {n m : Nat} (h1 : Rs w v1 x.raw) (h2 : Rs w v2 y.raw) (k1 : VOk n x) (k2 : VOk m y) (hn : n ≤ 5000) (hm : m ≤ 5000) :
    Calls Try.prog 43 #[v1, v2, .func (.func 44) #[] #[]] w fun e w' => ∃ v, e = .returned v ∧ Rn w' w.heap.size v (togV joinV x y).raw ∧ Below w.heap.size w w' := by
  obtain ⟨a, c, b, d, rfl, e1, e2, e3, e4, e5, e6⟩ := h1
  obtain ⟨a2, c2, b2, d2, rfl, f1, f2, f3, f4, f5, f6⟩ := h2
  obtain ⟨r, us, ss⟩ := x
  obtain ⟨r2, us2, ss2⟩ := y
  have i1 := k1.len
  have i2 := k2.len
  have i3 := k1.le
  have i4 := k2.le
  dsimp only [VS.raw] at *
  cases r with
  | false => exact together_l _ a b a2 b2 c d c2 d2 r2 (us.map V.raw) (us2.map V.raw) ss ss2 w f1 f2 f3 f5 (by rw [List.length_map]; omega) (by omega) (k2.inner hm)
  | true =>
    cases r2 with
    | false => exact together_r _ a b a2 b2 c d c2 d2 (us.map V.raw) (us2.map V.raw) ss ss2 w e1 e2 e3 e5 (by rw [List.length_map]; omega) (by omega) (k1.inner hn)
    | true =>
      have t := together_j a b a2 b2 c d c2 d2 us us2 ss ss2 w e1 e2 f1 f2 (fun u hu => (k1.ok u hu).p3) (fun u hu => (k2.ok u hu).p3) i3 i4 i1 i2 (fun l hl => by have := (k1.up l hl).2; omega) (fun l hl => by have := (k2.up l hl).2; omega)
      rw [List.length_map, List.length_map]
      exact t
set_option maxRecDepth 100000 in
set_option maxHeartbeats 4000000 in
theorem join_S {w : World} {v1 v2 : Value} {x y : VS} {n m : Nat} (h1 : Rs w v1 x.raw) (h2 : Rs w v2 y.raw) (k1 : VOk n x) (k2 : VOk m y) (hn : n ≤ 5000) (hm : m ≤ 5000) :
    Calls Try.prog 14 #[v1, v2] w fun e w' => ∃ v, e = .returned v ∧ Rn w' w.heap.size v (togV joinV x y).raw ∧ Below w.heap.size w w' := by
  have cT : ∀ w', Below w.heap.size w w' → _ := fun w' h => tog_joinV (h1.keep h) (h2.keep h) k1 k2 hn hm
  obtain ⟨a, c, b, d, rfl, -⟩ := h1
  obtain ⟨a2, c2, b2, d2, rfl, -⟩ := h2
  obtain ⟨z, hz⟩ : ∃ z, z = togV joinV x y := ⟨_, rfl⟩
  rw [← hz] at cT ⊢
  clear hz
  obtain ⟨r, vs, ss, hx⟩ : ∃ r vs ss, x.raw = ⟨r, vs, ss⟩ := ⟨_, _, _, rfl⟩
  obtain ⟨r2, vs2, ss2, hy⟩ : ∃ r vs ss, y.raw = ⟨r, vs, ss⟩ := ⟨_, _, _, rfl⟩
  rw [hx, hy] at cT
  rw [hx, hy]
  dsimp only at cT ⊢
  clear hx hy k1 k2
  obtain ⟨zr, zv, zs, hz⟩ : ∃ r vs ss, z.raw = ⟨r, vs, ss⟩ := ⟨_, _, _, rfl⟩
  rw [hz] at cT ⊢
  clear hz
  go_enter Try.func14, Try.ntmps14
  go_upto_region 1 with fail
  go_name_world W hW
  obtain ⟨q5, h5⟩ : ∃ z9, z9 = w.heap.size + 1 + 1 := ⟨_, rfl⟩
  rw [← h5]
  obtain ⟨q1, h1⟩ : ∃ z9, z9 = w.heap.size + 1 := ⟨_, rfl⟩
  rw [← h1]
  obtain ⟨q0, h0⟩ : ∃ z9, z9 = w.heap.size := ⟨_, rfl⟩
  rw [← h0]
  obtain ⟨B0, -, B1, -, B2, F2, u⟩ := boxes3 w _ _ _ _ _ _ _ _ _ _ _ _ W hW
  rw [← h0] at B0
  rw [← h1] at B1
  rw [← h5] at B2 F2
  have HB5 := hide (And.intro B2 F2)
  have HU := hide u
  have HQ5 : Hid (w.heap.size ≤ q5) := hide (by omega)
  have e0 := B0.c0
  have e1 := B0.c1
  have e2 := B0.c2
  have x0 := B1.c0
  have x1 := B1.c1
  have x2 := B1.c2
  clear hW h5 h1 h0 B0 B1 B2 F2 u
  go_wp2_with (go_at_call 43; refine (cT _ HU.out).mono ?_; rintro e wB ⟨v, rfl, hR, hB⟩; have hR2 := hide hR; obtain ⟨a5, c5, b5, d5, hv5, -⟩ := hR; subst hv5; dsimp only at hR2 ⊢; have z := HB5.out.1.keep hB; have y := HB5.out.2.of (hB.block q5 HB5.out.1.lt); have z0 := z.c0; have z1 := z.c1; have z2 := z.c2; have y0 := y.f0; have y1 := y.f1; have y2 := y.f2; have HZ := hide z; have HBB := hide hB; clear z y hB cT e0 e1 e2 x0 x1 x2)
  have x := HZ.out.put3 zr (.slice a5 zv.length c5) (.slice b5 zs.length d5)
  have x0 := x.c0
  have x1 := x.c1
  have x2 := x.c2
  clear z0 z1 z2 y0 y1 y2
  exact bodyPost_ret (by simp [results, Try.results14, go_sem, x0, x1, x2]; try rfl) rfl ⟨_, rfl, (hR2.out.st3 HB5.out.1.lt _ _ _).mono HU.out.size, st3_below (HU.out.trans (HBB.out.mono HU.out.size)) q5 HQ5.out _ _ _⟩
/-- widen_S -/
theorem tog_widenV {w : World} {v1 v2 : Value} {x y : VS} {n m : Nat} (h1 : Rs w v1 x.raw) (h2 : Rs w v2 y.raw) (k1 : VOk n x) (k2 : VOk m y) (hn : n ≤ 5000) (hm : m ≤ 5000) :
    Calls Try.prog 43 #[v1, v2, .func (.func 46) #[] #[]] w fun e w' => ∃ v, e = .returned v ∧ Rn w' w.heap.size v (togV widenV x y).raw ∧ Below w.heap.size w w' := by
  obtain ⟨a, c, b, d, rfl, e1, e2, e3, e4, e5, e6⟩ := h1
  obtain ⟨a2, c2, b2, d2, rfl, f1, f2, f3, f4, f5, f6⟩ := h2
  obtain ⟨r, us, ss⟩ := x
  obtain ⟨r2, us2, ss2⟩ := y
  have i1 := k1.len
  have i2 := k2.len
  have i3 := k1.le
  have i4 := k2.le
  dsimp only [VS.raw] at *
  cases r with
  | false => exact together_l _ a b a2 b2 c d c2 d2 r2 (us.map V.raw) (us2.map V.raw) ss ss2 w f1 f2 f3 f5 (by rw [List.length_map]; omega) (by omega) (k2.inner hm)
  | true =>
    cases r2 with
    | false => exact together_r _ a b a2 b2 c d c2 d2 (us.map V.raw) (us2.map V.raw) ss ss2 w e1 e2 e3 e5 (by rw [List.length_map]; omega) (by omega) (k1.inner hn)
    | true =>
      have t := together_w a b a2 b2 c d c2 d2 us us2 ss ss2 w e1 e2 f1 f2 (fun u hu => (k1.ok u hu).p3) (fun u hu => (k2.ok u hu).p3) i3 i4 i1 i2 (fun l hl => by have := (k1.up l hl).2; omega) (fun l hl => by have := (k2.up l hl).2; omega)
      rw [List.length_map, List.length_map]
      exact t
set_option maxRecDepth 100000 in
set_option maxHeartbeats 4000000 in
theorem widen_S {w : World} {v1 v2 : Value} {x y : VS} {n m : Nat} (h1 : Rs w v1 x.raw) (h2 : Rs w v2 y.raw) (k1 : VOk n x) (k2 : VOk m y) (hn : n ≤ 5000) (hm : m ≤ 5000) :
    Calls Try.prog 16 #[v1, v2] w fun e w' => ∃ v, e = .returned v ∧ Rn w' w.heap.size v (togV widenV x y).raw ∧ Below w.heap.size w w' := by
  have cT : ∀ w', Below w.heap.size w w' → _ := fun w' h => tog_widenV (h1.keep h) (h2.keep h) k1 k2 hn hm
  obtain ⟨a, c, b, d, rfl, -⟩ := h1
  obtain ⟨a2, c2, b2, d2, rfl, -⟩ := h2
  obtain ⟨z, hz⟩ : ∃ z, z = togV widenV x y := ⟨_, rfl⟩
  rw [← hz] at cT ⊢
  clear hz
  obtain ⟨r, vs, ss, hx⟩ : ∃ r vs ss, x.raw = ⟨r, vs, ss⟩ := ⟨_, _, _, rfl⟩
  obtain ⟨r2, vs2, ss2, hy⟩ : ∃ r vs ss, y.raw = ⟨r, vs, ss⟩ := ⟨_, _, _, rfl⟩
  rw [hx, hy] at cT
  rw [hx, hy]
  dsimp only at cT ⊢
  clear hx hy k1 k2
  obtain ⟨zr, zv, zs, hz⟩ : ∃ r vs ss, z.raw = ⟨r, vs, ss⟩ := ⟨_, _, _, rfl⟩
  rw [hz] at cT ⊢
  clear hz
  go_enter Try.func16, Try.ntmps16
  go_upto_region 1 with fail
  go_name_world W hW
  obtain ⟨q5, h5⟩ : ∃ z9, z9 = w.heap.size + 1 + 1 := ⟨_, rfl⟩
  rw [← h5]
  obtain ⟨q1, h1⟩ : ∃ z9, z9 = w.heap.size + 1 := ⟨_, rfl⟩
  rw [← h1]
  obtain ⟨q0, h0⟩ : ∃ z9, z9 = w.heap.size := ⟨_, rfl⟩
  rw [← h0]
  obtain ⟨B0, -, B1, -, B2, F2, u⟩ := boxes3 w _ _ _ _ _ _ _ _ _ _ _ _ W hW
  rw [← h0] at B0
  rw [← h1] at B1
  rw [← h5] at B2 F2
  have HB5 := hide (And.intro B2 F2)
  have HU := hide u
  have HQ5 : Hid (w.heap.size ≤ q5) := hide (by omega)
  have e0 := B0.c0
  have e1 := B0.c1
  have e2 := B0.c2
  have x0 := B1.c0
  have x1 := B1.c1
  have x2 := B1.c2
  clear hW h5 h1 h0 B0 B1 B2 F2 u
  go_wp2_with (go_at_call 43; refine (cT _ HU.out).mono ?_; rintro e wB ⟨v, rfl, hR, hB⟩; have hR2 := hide hR; obtain ⟨a5, c5, b5, d5, hv5, -⟩ := hR; subst hv5; dsimp only at hR2 ⊢; have z := HB5.out.1.keep hB; have y := HB5.out.2.of (hB.block q5 HB5.out.1.lt); have z0 := z.c0; have z1 := z.c1; have z2 := z.c2; have y0 := y.f0; have y1 := y.f1; have y2 := y.f2; have HZ := hide z; have HBB := hide hB; clear z y hB cT e0 e1 e2 x0 x1 x2)
  have x := HZ.out.put3 zr (.slice a5 zv.length c5) (.slice b5 zs.length d5)
  have x0 := x.c0
  have x1 := x.c1
  have x2 := x.c2
  clear z0 z1 z2 y0 y1 y2
  exact bodyPost_ret (by simp [results, Try.results16, go_sem, x0, x1, x2]; try rfl) rfl ⟨_, rfl, (hR2.out.st3 HB5.out.1.lt _ _ _).mono HU.out.size, st3_below (HU.out.trans (HBB.out.mono HU.out.size)) q5 HQ5.out _ _ _⟩
end Go.Proofs.Ytmhicllhjiglkaa
namespace Go.Proofs.Ytmhicllhjiglkaa
open Go.RowKit
theorem neq_val (x y : R) (h : x ≠ y) (w : World) : (binOp .neq 53 (aR x) (aR y)).run Try.prog w = .ok (.bool true) w := by
  obtain ⟨a, b, c, d, e, f⟩ := x
  obtain ⟨a', b', c', d', e', f'⟩ := y
  by_cases h0 : a = a'
  · subst h0
    by_cases h1 : b = b'
    · subst h1
      by_cases h2 : c = c'
      · subst h2
        by_cases h3 : d = d'
        · subst h3
          by_cases h4 : e = e'
          · subst h4
            by_cases h5 : f = f'
            · subst h5; exact absurd rfl h
            · simp [go_sem, h5]
          · simp [go_sem, h4]
        · simp [go_sem, h3]
      · simp [go_sem, h2]
    · simp [go_sem, h1]
  · simp [go_sem, h0]
theorem eq_val (x : R) (w : World) : (binOp .neq 53 (aR x) (aR x)).run Try.prog w = .ok (.bool false) w := by
  simp [go_sem]
theorem take_ext {α : Type} {l m : List α} {k : Nat} {x y : α} (h : l.take k = m.take k) (hx : l[k]? = some x) (hy : m[k]? = some y) : (x = y → l.take (k + 1) = m.take (k + 1)) ∧ (x ≠ y → l ≠ m) := by
  refine ⟨fun e => by rw [take_more hx, take_more hy, h, e], fun e t => ?_⟩
  subst t
  rw [hx] at hy
  exact e (Option.some.inj hy)
set_option maxRecDepth 100000 in
set_option maxHeartbeats 4000000 in
theorem vequal_any (vs ts : List R) (a b : Option Addr) (c d : Nat) (w : World) (hr : RV w a vs) (hs : RV w b ts) (hl1 : vs.length ≤ 100000) (_hl2 : ts.length ≤ 100000) :
    Calls Try.prog 54 #[.slice a vs.length c, .slice b ts.length d] w fun e w' => ∃ bv, e = .returned (.bool bv) ∧ (∃ n, w' = w.drewN n) ∧ (bv = true ↔ vs = ts) := by
  have HR := hide hr
  have HS := hide hs
  clear hr hs
  have i1 : (vs.length : Int) ≤ 100000 := by omega
  by_cases hl : vs.length = ts.length
  · have hb0 : ((vs.length : Int) != ts.length) = false := by simp [hl]
    have HLn := hide hl
    clear hl
    go_enter Try.func54, Try.ntmps54
    go_wp2_with fail
    clear hb0
    go_loopw [13] (fun sk wr => ∃ k n : Nat, wr = w.drewN n ∧ sk = .int .i64 k ∧ k ≤ vs.length ∧ Hid (vs.take k = ts.take k)) (fun sk _ => vs.length - (intOf sk).toNat)
    case atStart => exact ⟨0, 0, rfl, rfl, Nat.zero_le _, rfl⟩
    case round =>
      obtain ⟨k, n, rfl, rfl, hk, h4⟩ := hrel
      by_cases hkv : k < vs.length
      · have hkv2 : (k : Int) < vs.length := by omega
        have hkt : k < ts.length := by have := HLn.out; omega
        have hkt2 : (k : Int) < ts.length := by omega
        obtain ⟨b1, o1, x, hX, rfl, hx6⟩ := HR.out.at hkv
        obtain ⟨b2, o2, y, hY, rfl, hy6⟩ := HS.out.at hkt
        have ht := take_ext h4.out hX hY
        have d0 := hx6.c0
        have d1 := hx6.c1
        have d2 := hx6.c2
        have d3 := hx6.c3
        have d4 := hx6.c4
        have d5 := hx6.c5
        have g0 := hy6.c0
        have g1 := hy6.c1
        have g2 := hy6.c2
        have g3 := hy6.c3
        have g4 := hy6.c4
        have g5 := hy6.c5
        clear hX hY hx6 hy6
        by_cases hxy : x = y
        · subst hxy
          have HT := hide (ht.1 rfl)
          clear ht h4
          go_wp2
          go_quiet (fail)
          go_wp2
          exact ⟨⟨k + 1, n + nq, rfl, by simp, by omega, HT.out⟩, by simp [intOf]; omega⟩
        · have HT := hide (ht.2 hxy)
          have hne := neq_val x y hxy
          clear ht h4 hxy
          go_wp2
          go_quiet (fail)
          go_wp2
          go_ret
          exact ⟨false, rfl, ⟨n + nq, by simp⟩, by simp; exact HT.out⟩
      · have hke : k = vs.length := by omega
        subst hke
        have HE : Hid (vs = ts) := hide (by have t := h4.out; rw [List.take_of_length_le (Nat.le_refl _), List.take_of_length_le (by have := HLn.out; omega)] at t; exact t)
        go_wp2
        go_ret
        exact ⟨true, rfl, ⟨n, rfl⟩, by simp; exact HE.out⟩
  · have hb0 : ((vs.length : Int) != ts.length) = true := by rw [bne_iff_ne]; omega
    go_enter Try.func54, Try.ntmps54
    go_wp2
    go_ret
    exact ⟨false, rfl, ⟨0, rfl⟩, by simp; exact fun t => hl (by rw [t])⟩
set_option maxRecDepth 100000 in
set_option maxHeartbeats 4000000 in
theorem sequal_any (ss tt : List (List Int)) (a b : Option Addr) (c d : Nat) (w : World) (hr : RR w a ss) (hs : RR w b tt) (hl1 : ss.length ≤ 100000) (_hl2 : tt.length ≤ 100000) (hi1 : ∀ l ∈ ss, l.length ≤ 100000) (hi2 : ∀ l ∈ tt, l.length ≤ 100000) :
    Calls Try.prog 49 #[.slice a ss.length c, .slice b tt.length d, .func (.func 55) #[] #[]] w fun e w' => ∃ bv, e = .returned (.bool bv) ∧ (∃ n, w' = w.drewN n) ∧ (bv = true ↔ ss = tt) := by
  have HR := hide hr
  have HS := hide hs
  have HI := hide (And.intro hi1 hi2)
  clear hr hs hi1 hi2
  have i1 : (ss.length : Int) ≤ 100000 := by omega
  by_cases hl : ss.length = tt.length
  · have hb0 : ((ss.length : Int) != tt.length) = false := by simp [hl]
    have HLn := hide hl
    clear hl
    go_enter Try.func49, Try.ntmps49
    go_wp2_with fail
    clear hb0
    go_loopw [17] (fun sk wr => ∃ k n : Nat, wr = w.drewN n ∧ sk = .int .i64 k ∧ k ≤ ss.length ∧ Hid (ss.take k = tt.take k)) (fun sk _ => ss.length - (intOf sk).toNat)
    case atStart => exact ⟨0, 0, rfl, rfl, Nat.zero_le _, rfl⟩
    case round =>
      obtain ⟨k, n, rfl, rfl, hk, h4⟩ := hrel
      by_cases hkv : k < ss.length
      · have hkv2 : (k : Int) < ss.length := by omega
        have hkt : k < tt.length := by have := HLn.out; omega
        have hkt2 : (k : Int) < tt.length := by omega
        obtain ⟨b1, o1, l, ai, ci, hX, rfl, f1, f2, f3, f4⟩ := HR.out.at hkv
        obtain ⟨b2, o2, m, aj, cj, hY, rfl, f5, f6, f7, f8⟩ := HS.out.at hkt
        have ht := take_ext h4.out hX hY
        have hll := HI.out.1 l (List.mem_of_getElem? hX)
        have hlm := HI.out.2 m (List.mem_of_getElem? hY)
        have cS := bsame_any l m ai aj ci cj (w.drewN n) (f2.drewN n) (f6.drewN n) (by omega) (by omega)
        clear hX hY f2 f3 f4 f6 f7 f8
        by_cases hxy : l = m
        · have HT := hide (ht.1 hxy)
          rw [show sameL l m = true from decide_eq_true hxy] at cS
          clear ht h4 hxy
          go_wp2_with (go_at_call 55; refine cS.mono ?_; rintro e w' ⟨⟨j, rfl⟩, rfl⟩; clear cS)
          exact ⟨⟨k + 1, n + j, by simp, by simp, by omega, HT.out⟩, by simp [intOf]; omega⟩
        · have HT := hide (ht.2 hxy)
          rw [show sameL l m = false from decide_eq_false hxy] at cS
          clear ht h4 hxy
          go_wp2_with (go_at_call 55; refine cS.mono ?_; rintro e w' ⟨⟨j, rfl⟩, rfl⟩; clear cS)
          go_ret
          exact ⟨false, rfl, ⟨n + j, by simp⟩, by simp; exact HT.out⟩
      · have hke : k = ss.length := by omega
        subst hke
        have HE : Hid (ss = tt) := hide (by have t := h4.out; rw [List.take_of_length_le (Nat.le_refl _), List.take_of_length_le (by have := HLn.out; omega)] at t; exact t)
        go_wp2
        go_ret
        exact ⟨true, rfl, ⟨n, rfl⟩, by simp; exact HE.out⟩
  · have hb0 : ((ss.length : Int) != tt.length) = true := by rw [bne_iff_ne]; omega
    go_enter Try.func49, Try.ntmps49
    go_wp2
    go_ret
    exact ⟨false, rfl, ⟨0, rfl⟩, by simp; exact fun t => hl (by rw [t])⟩
end Go.Proofs.Ytmhicllhjiglkaa
namespace Go.Proofs.Ytmhicllhjiglkaa
open Go.RowKit
set_option maxRecDepth 100000 in
set_option maxHeartbeats 16000000 in
theorem within_V (x y : V) (w : World) (hx : x.p &&& 3 = x.p) (hy : y.p &&& 3 = y.p) : Calls Try.prog 48 #[.agg #[.int .i64 (up x.s), .bool x.k, .int .i64 x.n, .int .i64 x.lo, .int .i64 x.hi, .int .i64 (up x.p)], .agg #[.int .i64 (up y.s), .bool y.k, .int .i64 y.n, .int .i64 y.lo, .int .i64 y.hi, .int .i64 (up y.p)]] w fun e w' => e = .returned (.bool (withinV x y)) ∧ Below w.heap.size w w' := by
  have c1 := fun w => swithinB x.s y.s w
  have c2 := fun w => kwithin_any x.k x.n y.k y.n w
  have c3 := fun w => bel2 (nwithin_any x.lo x.hi y.lo y.hi w)
  have c4 := fun w => pwithinB x.p y.p w hx hy
  have HR : Hid (withinV x y = (withinS x.s y.s && (withinK x.k x.n y.k y.n && (withinR x.lo x.hi y.lo y.hi && withinS x.p y.p)))) := rfl
  generalize withinV x y = r at *
  generalize withinS x.s y.s = t1 at *
  generalize withinK x.k x.n y.k y.n = t2 at *
  generalize withinR x.lo x.hi y.lo y.hi = t3 at *
  generalize withinS x.p y.p = t4 at *
  clear hx hy
  cases t1
  · have x0 : Br ((w.alloc (.cells #[.int .i64 (up x.s), .bool x.k, .int .i64 x.n, .int .i64 x.lo, .int .i64 x.hi, .int .i64 (up x.p)] 53)).alloc (.cells #[.int .i64 (up y.s), .bool y.k, .int .i64 y.n, .int .i64 y.lo, .int .i64 y.hi, .int .i64 (up y.p)] 53)) (w.heap.size) (up x.s) x.k x.n x.lo x.hi (up x.p) := ((Br.new w (up x.s) x.k x.n x.lo x.hi (up x.p) 53)).keep ((Below.refl _ _).alloc (Nat.le_refl _) _)
    have x1 : Br ((w.alloc (.cells #[.int .i64 (up x.s), .bool x.k, .int .i64 x.n, .int .i64 x.lo, .int .i64 x.hi, .int .i64 (up x.p)] 53)).alloc (.cells #[.int .i64 (up y.s), .bool y.k, .int .i64 y.n, .int .i64 y.lo, .int .i64 y.hi, .int .i64 (up y.p)] 53)) (w.heap.size + 1) (up y.s) y.k y.n y.lo y.hi (up y.p) := (by simpa using Br.new (w.alloc (.cells #[.int .i64 (up x.s), .bool x.k, .int .i64 x.n, .int .i64 x.lo, .int .i64 x.hi, .int .i64 (up x.p)] 53)) (up y.s) y.k y.n y.lo y.hi (up y.p) 53 : Br ((w.alloc (.cells #[.int .i64 (up x.s), .bool x.k, .int .i64 x.n, .int .i64 x.lo, .int .i64 x.hi, .int .i64 (up x.p)] 53)).alloc (.cells #[.int .i64 (up y.s), .bool y.k, .int .i64 y.n, .int .i64 y.lo, .int .i64 y.hi, .int .i64 (up y.p)] 53)) (w.heap.size + 1) (up y.s) y.k y.n y.lo y.hi (up y.p))
    have xb : Below w.heap.size w ((w.alloc (.cells #[.int .i64 (up x.s), .bool x.k, .int .i64 x.n, .int .i64 x.lo, .int .i64 x.hi, .int .i64 (up x.p)] 53)).alloc (.cells #[.int .i64 (up y.s), .bool y.k, .int .i64 y.n, .int .i64 y.lo, .int .i64 y.hi, .int .i64 (up y.p)] 53)) := (by repeat (first | exact Below.refl _ _ | (refine Below.drew ?_) | (refine below_drewN ?_ _) | (refine Below.setCell ?_ (by first | omega | (simp; done) | (simp; omega)) _) | (refine Below.alloc ?_ (by first | omega | (simp; done) | (simp; omega)) _) | (refine Below.trans ?_ (Below.mono (by assumption) (by first | omega | (simp; done) | (simp; omega))))))
    go_enter Try.func48, Try.ntmps48
    go_upto_region 1 with fail
    go_name_world W hW
    rw [hW] at x0 x1 xb
    clear hW
    obtain ⟨N, hN⟩ : ∃ N, N = w.heap.size := ⟨_, rfl⟩
    rw [← hN] at x0 x1 xb ⊢
    have HN : Hid (N = w.heap.size) := hN
    clear hN
    have HA := hide (And.intro x0 (And.intro x1 xb))
    clear x0 x1 xb
    have a0 := HA.out.1.c0
    have a1 := HA.out.1.c1
    have a2 := HA.out.1.c2
    have a3 := HA.out.1.c3
    have a4 := HA.out.1.c4
    have a5 := HA.out.1.c5
    have b0 := HA.out.2.1.c0
    have b1 := HA.out.2.1.c1
    have b2 := HA.out.2.1.c2
    have b3 := HA.out.2.1.c3
    have b4 := HA.out.2.1.c4
    have b5 := HA.out.2.1.c5
    go_wp2_with (first | (go_at_call 95; refine (c1 _).mono ?_; rintro e w1 ⟨rfl, hb1⟩; have HB := hide (And.intro (HA.out.1.keep hb1) (And.intro (HA.out.2.1.keep hb1) (HA.out.2.2.trans (hb1.mono (Nat.le_of_lt HA.out.1.lt))))); clear HA hb1 a0 a1 a2 a3 a4 a5 b0 b1 b2 b3 b4 b5; have HA := HB; clear HB; have a0 := HA.out.1.c0; have a1 := HA.out.1.c1; have a2 := HA.out.1.c2; have a3 := HA.out.1.c3; have a4 := HA.out.1.c4; have a5 := HA.out.1.c5; have b0 := HA.out.2.1.c0; have b1 := HA.out.2.1.c1; have b2 := HA.out.2.1.c2; have b3 := HA.out.2.1.c3; have b4 := HA.out.2.1.c4; have b5 := HA.out.2.1.c5) | (go_at_call 96; refine (c2 _).mono ?_; rintro e w1 ⟨rfl, hb1⟩; have HB := hide (And.intro (HA.out.1.keep hb1) (And.intro (HA.out.2.1.keep hb1) (HA.out.2.2.trans (hb1.mono (Nat.le_of_lt HA.out.1.lt))))); clear HA hb1 a0 a1 a2 a3 a4 a5 b0 b1 b2 b3 b4 b5; have HA := HB; clear HB; have a0 := HA.out.1.c0; have a1 := HA.out.1.c1; have a2 := HA.out.1.c2; have a3 := HA.out.1.c3; have a4 := HA.out.1.c4; have a5 := HA.out.1.c5; have b0 := HA.out.2.1.c0; have b1 := HA.out.2.1.c1; have b2 := HA.out.2.1.c2; have b3 := HA.out.2.1.c3; have b4 := HA.out.2.1.c4; have b5 := HA.out.2.1.c5) | (go_at_call 97; refine (c3 _).mono ?_; rintro e w1 ⟨rfl, hb1⟩; have HB := hide (And.intro (HA.out.1.keep hb1) (And.intro (HA.out.2.1.keep hb1) (HA.out.2.2.trans (hb1.mono (Nat.le_of_lt HA.out.1.lt))))); clear HA hb1 a0 a1 a2 a3 a4 a5 b0 b1 b2 b3 b4 b5; have HA := HB; clear HB; have a0 := HA.out.1.c0; have a1 := HA.out.1.c1; have a2 := HA.out.1.c2; have a3 := HA.out.1.c3; have a4 := HA.out.1.c4; have a5 := HA.out.1.c5; have b0 := HA.out.2.1.c0; have b1 := HA.out.2.1.c1; have b2 := HA.out.2.1.c2; have b3 := HA.out.2.1.c3; have b4 := HA.out.2.1.c4; have b5 := HA.out.2.1.c5) | (go_at_call 98; refine (c4 _).mono ?_; rintro e w1 ⟨rfl, hb1⟩; have HB := hide (And.intro (HA.out.1.keep hb1) (And.intro (HA.out.2.1.keep hb1) (HA.out.2.2.trans (hb1.mono (Nat.le_of_lt HA.out.1.lt))))); clear HA hb1 a0 a1 a2 a3 a4 a5 b0 b1 b2 b3 b4 b5; have HA := HB; clear HB; have a0 := HA.out.1.c0; have a1 := HA.out.1.c1; have a2 := HA.out.1.c2; have a3 := HA.out.1.c3; have a4 := HA.out.1.c4; have a5 := HA.out.1.c5; have b0 := HA.out.2.1.c0; have b1 := HA.out.2.1.c1; have b2 := HA.out.2.1.c2; have b3 := HA.out.2.1.c3; have b4 := HA.out.2.1.c4; have b5 := HA.out.2.1.c5))
    clear c1 c2 c3 c4
    go_ret
    exact ⟨by rw [HR.out]; rfl, by rw [← HN.out]; exact HA.out.2.2⟩
  · cases t2
    · have x0 : Br ((w.alloc (.cells #[.int .i64 (up x.s), .bool x.k, .int .i64 x.n, .int .i64 x.lo, .int .i64 x.hi, .int .i64 (up x.p)] 53)).alloc (.cells #[.int .i64 (up y.s), .bool y.k, .int .i64 y.n, .int .i64 y.lo, .int .i64 y.hi, .int .i64 (up y.p)] 53)) (w.heap.size) (up x.s) x.k x.n x.lo x.hi (up x.p) := ((Br.new w (up x.s) x.k x.n x.lo x.hi (up x.p) 53)).keep ((Below.refl _ _).alloc (Nat.le_refl _) _)
      have x1 : Br ((w.alloc (.cells #[.int .i64 (up x.s), .bool x.k, .int .i64 x.n, .int .i64 x.lo, .int .i64 x.hi, .int .i64 (up x.p)] 53)).alloc (.cells #[.int .i64 (up y.s), .bool y.k, .int .i64 y.n, .int .i64 y.lo, .int .i64 y.hi, .int .i64 (up y.p)] 53)) (w.heap.size + 1) (up y.s) y.k y.n y.lo y.hi (up y.p) := (by simpa using Br.new (w.alloc (.cells #[.int .i64 (up x.s), .bool x.k, .int .i64 x.n, .int .i64 x.lo, .int .i64 x.hi, .int .i64 (up x.p)] 53)) (up y.s) y.k y.n y.lo y.hi (up y.p) 53 : Br ((w.alloc (.cells #[.int .i64 (up x.s), .bool x.k, .int .i64 x.n, .int .i64 x.lo, .int .i64 x.hi, .int .i64 (up x.p)] 53)).alloc (.cells #[.int .i64 (up y.s), .bool y.k, .int .i64 y.n, .int .i64 y.lo, .int .i64 y.hi, .int .i64 (up y.p)] 53)) (w.heap.size + 1) (up y.s) y.k y.n y.lo y.hi (up y.p))
      have xb : Below w.heap.size w ((w.alloc (.cells #[.int .i64 (up x.s), .bool x.k, .int .i64 x.n, .int .i64 x.lo, .int .i64 x.hi, .int .i64 (up x.p)] 53)).alloc (.cells #[.int .i64 (up y.s), .bool y.k, .int .i64 y.n, .int .i64 y.lo, .int .i64 y.hi, .int .i64 (up y.p)] 53)) := (by repeat (first | exact Below.refl _ _ | (refine Below.drew ?_) | (refine below_drewN ?_ _) | (refine Below.setCell ?_ (by first | omega | (simp; done) | (simp; omega)) _) | (refine Below.alloc ?_ (by first | omega | (simp; done) | (simp; omega)) _) | (refine Below.trans ?_ (Below.mono (by assumption) (by first | omega | (simp; done) | (simp; omega))))))
      go_enter Try.func48, Try.ntmps48
      go_upto_region 1 with fail
      go_name_world W hW
      rw [hW] at x0 x1 xb
      clear hW
      obtain ⟨N, hN⟩ : ∃ N, N = w.heap.size := ⟨_, rfl⟩
      rw [← hN] at x0 x1 xb ⊢
      have HN : Hid (N = w.heap.size) := hN
      clear hN
      have HA := hide (And.intro x0 (And.intro x1 xb))
      clear x0 x1 xb
      have a0 := HA.out.1.c0
      have a1 := HA.out.1.c1
      have a2 := HA.out.1.c2
      have a3 := HA.out.1.c3
      have a4 := HA.out.1.c4
      have a5 := HA.out.1.c5
      have b0 := HA.out.2.1.c0
      have b1 := HA.out.2.1.c1
      have b2 := HA.out.2.1.c2
      have b3 := HA.out.2.1.c3
      have b4 := HA.out.2.1.c4
      have b5 := HA.out.2.1.c5
      go_wp2_with (first | (go_at_call 95; refine (c1 _).mono ?_; rintro e w1 ⟨rfl, hb1⟩; have HB := hide (And.intro (HA.out.1.keep hb1) (And.intro (HA.out.2.1.keep hb1) (HA.out.2.2.trans (hb1.mono (Nat.le_of_lt HA.out.1.lt))))); clear HA hb1 a0 a1 a2 a3 a4 a5 b0 b1 b2 b3 b4 b5; have HA := HB; clear HB; have a0 := HA.out.1.c0; have a1 := HA.out.1.c1; have a2 := HA.out.1.c2; have a3 := HA.out.1.c3; have a4 := HA.out.1.c4; have a5 := HA.out.1.c5; have b0 := HA.out.2.1.c0; have b1 := HA.out.2.1.c1; have b2 := HA.out.2.1.c2; have b3 := HA.out.2.1.c3; have b4 := HA.out.2.1.c4; have b5 := HA.out.2.1.c5) | (go_at_call 96; refine (c2 _).mono ?_; rintro e w1 ⟨rfl, hb1⟩; have HB := hide (And.intro (HA.out.1.keep hb1) (And.intro (HA.out.2.1.keep hb1) (HA.out.2.2.trans (hb1.mono (Nat.le_of_lt HA.out.1.lt))))); clear HA hb1 a0 a1 a2 a3 a4 a5 b0 b1 b2 b3 b4 b5; have HA := HB; clear HB; have a0 := HA.out.1.c0; have a1 := HA.out.1.c1; have a2 := HA.out.1.c2; have a3 := HA.out.1.c3; have a4 := HA.out.1.c4; have a5 := HA.out.1.c5; have b0 := HA.out.2.1.c0; have b1 := HA.out.2.1.c1; have b2 := HA.out.2.1.c2; have b3 := HA.out.2.1.c3; have b4 := HA.out.2.1.c4; have b5 := HA.out.2.1.c5) | (go_at_call 97; refine (c3 _).mono ?_; rintro e w1 ⟨rfl, hb1⟩; have HB := hide (And.intro (HA.out.1.keep hb1) (And.intro (HA.out.2.1.keep hb1) (HA.out.2.2.trans (hb1.mono (Nat.le_of_lt HA.out.1.lt))))); clear HA hb1 a0 a1 a2 a3 a4 a5 b0 b1 b2 b3 b4 b5; have HA := HB; clear HB; have a0 := HA.out.1.c0; have a1 := HA.out.1.c1; have a2 := HA.out.1.c2; have a3 := HA.out.1.c3; have a4 := HA.out.1.c4; have a5 := HA.out.1.c5; have b0 := HA.out.2.1.c0; have b1 := HA.out.2.1.c1; have b2 := HA.out.2.1.c2; have b3 := HA.out.2.1.c3; have b4 := HA.out.2.1.c4; have b5 := HA.out.2.1.c5) | (go_at_call 98; refine (c4 _).mono ?_; rintro e w1 ⟨rfl, hb1⟩; have HB := hide (And.intro (HA.out.1.keep hb1) (And.intro (HA.out.2.1.keep hb1) (HA.out.2.2.trans (hb1.mono (Nat.le_of_lt HA.out.1.lt))))); clear HA hb1 a0 a1 a2 a3 a4 a5 b0 b1 b2 b3 b4 b5; have HA := HB; clear HB; have a0 := HA.out.1.c0; have a1 := HA.out.1.c1; have a2 := HA.out.1.c2; have a3 := HA.out.1.c3; have a4 := HA.out.1.c4; have a5 := HA.out.1.c5; have b0 := HA.out.2.1.c0; have b1 := HA.out.2.1.c1; have b2 := HA.out.2.1.c2; have b3 := HA.out.2.1.c3; have b4 := HA.out.2.1.c4; have b5 := HA.out.2.1.c5))
      clear c1 c2 c3 c4
      go_ret
      exact ⟨by rw [HR.out]; rfl, by rw [← HN.out]; exact HA.out.2.2⟩
    · cases t3
      · have x0 : Br ((w.alloc (.cells #[.int .i64 (up x.s), .bool x.k, .int .i64 x.n, .int .i64 x.lo, .int .i64 x.hi, .int .i64 (up x.p)] 53)).alloc (.cells #[.int .i64 (up y.s), .bool y.k, .int .i64 y.n, .int .i64 y.lo, .int .i64 y.hi, .int .i64 (up y.p)] 53)) (w.heap.size) (up x.s) x.k x.n x.lo x.hi (up x.p) := ((Br.new w (up x.s) x.k x.n x.lo x.hi (up x.p) 53)).keep ((Below.refl _ _).alloc (Nat.le_refl _) _)
        have x1 : Br ((w.alloc (.cells #[.int .i64 (up x.s), .bool x.k, .int .i64 x.n, .int .i64 x.lo, .int .i64 x.hi, .int .i64 (up x.p)] 53)).alloc (.cells #[.int .i64 (up y.s), .bool y.k, .int .i64 y.n, .int .i64 y.lo, .int .i64 y.hi, .int .i64 (up y.p)] 53)) (w.heap.size + 1) (up y.s) y.k y.n y.lo y.hi (up y.p) := (by simpa using Br.new (w.alloc (.cells #[.int .i64 (up x.s), .bool x.k, .int .i64 x.n, .int .i64 x.lo, .int .i64 x.hi, .int .i64 (up x.p)] 53)) (up y.s) y.k y.n y.lo y.hi (up y.p) 53 : Br ((w.alloc (.cells #[.int .i64 (up x.s), .bool x.k, .int .i64 x.n, .int .i64 x.lo, .int .i64 x.hi, .int .i64 (up x.p)] 53)).alloc (.cells #[.int .i64 (up y.s), .bool y.k, .int .i64 y.n, .int .i64 y.lo, .int .i64 y.hi, .int .i64 (up y.p)] 53)) (w.heap.size + 1) (up y.s) y.k y.n y.lo y.hi (up y.p))
        have xb : Below w.heap.size w ((w.alloc (.cells #[.int .i64 (up x.s), .bool x.k, .int .i64 x.n, .int .i64 x.lo, .int .i64 x.hi, .int .i64 (up x.p)] 53)).alloc (.cells #[.int .i64 (up y.s), .bool y.k, .int .i64 y.n, .int .i64 y.lo, .int .i64 y.hi, .int .i64 (up y.p)] 53)) := (by repeat (first | exact Below.refl _ _ | (refine Below.drew ?_) | (refine below_drewN ?_ _) | (refine Below.setCell ?_ (by first | omega | (simp; done) | (simp; omega)) _) | (refine Below.alloc ?_ (by first | omega | (simp; done) | (simp; omega)) _) | (refine Below.trans ?_ (Below.mono (by assumption) (by first | omega | (simp; done) | (simp; omega))))))
        go_enter Try.func48, Try.ntmps48
        go_upto_region 1 with fail
        go_name_world W hW
        rw [hW] at x0 x1 xb
        clear hW
        obtain ⟨N, hN⟩ : ∃ N, N = w.heap.size := ⟨_, rfl⟩
        rw [← hN] at x0 x1 xb ⊢
        have HN : Hid (N = w.heap.size) := hN
        clear hN
        have HA := hide (And.intro x0 (And.intro x1 xb))
        clear x0 x1 xb
        have a0 := HA.out.1.c0
        have a1 := HA.out.1.c1
        have a2 := HA.out.1.c2
        have a3 := HA.out.1.c3
        have a4 := HA.out.1.c4
        have a5 := HA.out.1.c5
        have b0 := HA.out.2.1.c0
        have b1 := HA.out.2.1.c1
        have b2 := HA.out.2.1.c2
        have b3 := HA.out.2.1.c3
        have b4 := HA.out.2.1.c4
        have b5 := HA.out.2.1.c5
        go_wp2_with (first | (go_at_call 95; refine (c1 _).mono ?_; rintro e w1 ⟨rfl, hb1⟩; have HB := hide (And.intro (HA.out.1.keep hb1) (And.intro (HA.out.2.1.keep hb1) (HA.out.2.2.trans (hb1.mono (Nat.le_of_lt HA.out.1.lt))))); clear HA hb1 a0 a1 a2 a3 a4 a5 b0 b1 b2 b3 b4 b5; have HA := HB; clear HB; have a0 := HA.out.1.c0; have a1 := HA.out.1.c1; have a2 := HA.out.1.c2; have a3 := HA.out.1.c3; have a4 := HA.out.1.c4; have a5 := HA.out.1.c5; have b0 := HA.out.2.1.c0; have b1 := HA.out.2.1.c1; have b2 := HA.out.2.1.c2; have b3 := HA.out.2.1.c3; have b4 := HA.out.2.1.c4; have b5 := HA.out.2.1.c5) | (go_at_call 96; refine (c2 _).mono ?_; rintro e w1 ⟨rfl, hb1⟩; have HB := hide (And.intro (HA.out.1.keep hb1) (And.intro (HA.out.2.1.keep hb1) (HA.out.2.2.trans (hb1.mono (Nat.le_of_lt HA.out.1.lt))))); clear HA hb1 a0 a1 a2 a3 a4 a5 b0 b1 b2 b3 b4 b5; have HA := HB; clear HB; have a0 := HA.out.1.c0; have a1 := HA.out.1.c1; have a2 := HA.out.1.c2; have a3 := HA.out.1.c3; have a4 := HA.out.1.c4; have a5 := HA.out.1.c5; have b0 := HA.out.2.1.c0; have b1 := HA.out.2.1.c1; have b2 := HA.out.2.1.c2; have b3 := HA.out.2.1.c3; have b4 := HA.out.2.1.c4; have b5 := HA.out.2.1.c5) | (go_at_call 97; refine (c3 _).mono ?_; rintro e w1 ⟨rfl, hb1⟩; have HB := hide (And.intro (HA.out.1.keep hb1) (And.intro (HA.out.2.1.keep hb1) (HA.out.2.2.trans (hb1.mono (Nat.le_of_lt HA.out.1.lt))))); clear HA hb1 a0 a1 a2 a3 a4 a5 b0 b1 b2 b3 b4 b5; have HA := HB; clear HB; have a0 := HA.out.1.c0; have a1 := HA.out.1.c1; have a2 := HA.out.1.c2; have a3 := HA.out.1.c3; have a4 := HA.out.1.c4; have a5 := HA.out.1.c5; have b0 := HA.out.2.1.c0; have b1 := HA.out.2.1.c1; have b2 := HA.out.2.1.c2; have b3 := HA.out.2.1.c3; have b4 := HA.out.2.1.c4; have b5 := HA.out.2.1.c5) | (go_at_call 98; refine (c4 _).mono ?_; rintro e w1 ⟨rfl, hb1⟩; have HB := hide (And.intro (HA.out.1.keep hb1) (And.intro (HA.out.2.1.keep hb1) (HA.out.2.2.trans (hb1.mono (Nat.le_of_lt HA.out.1.lt))))); clear HA hb1 a0 a1 a2 a3 a4 a5 b0 b1 b2 b3 b4 b5; have HA := HB; clear HB; have a0 := HA.out.1.c0; have a1 := HA.out.1.c1; have a2 := HA.out.1.c2; have a3 := HA.out.1.c3; have a4 := HA.out.1.c4; have a5 := HA.out.1.c5; have b0 := HA.out.2.1.c0; have b1 := HA.out.2.1.c1; have b2 := HA.out.2.1.c2; have b3 := HA.out.2.1.c3; have b4 := HA.out.2.1.c4; have b5 := HA.out.2.1.c5))
        clear c1 c2 c3 c4
        go_ret
        exact ⟨by rw [HR.out]; rfl, by rw [← HN.out]; exact HA.out.2.2⟩
      · have x0 : Br ((w.alloc (.cells #[.int .i64 (up x.s), .bool x.k, .int .i64 x.n, .int .i64 x.lo, .int .i64 x.hi, .int .i64 (up x.p)] 53)).alloc (.cells #[.int .i64 (up y.s), .bool y.k, .int .i64 y.n, .int .i64 y.lo, .int .i64 y.hi, .int .i64 (up y.p)] 53)) (w.heap.size) (up x.s) x.k x.n x.lo x.hi (up x.p) := ((Br.new w (up x.s) x.k x.n x.lo x.hi (up x.p) 53)).keep ((Below.refl _ _).alloc (Nat.le_refl _) _)
        have x1 : Br ((w.alloc (.cells #[.int .i64 (up x.s), .bool x.k, .int .i64 x.n, .int .i64 x.lo, .int .i64 x.hi, .int .i64 (up x.p)] 53)).alloc (.cells #[.int .i64 (up y.s), .bool y.k, .int .i64 y.n, .int .i64 y.lo, .int .i64 y.hi, .int .i64 (up y.p)] 53)) (w.heap.size + 1) (up y.s) y.k y.n y.lo y.hi (up y.p) := (by simpa using Br.new (w.alloc (.cells #[.int .i64 (up x.s), .bool x.k, .int .i64 x.n, .int .i64 x.lo, .int .i64 x.hi, .int .i64 (up x.p)] 53)) (up y.s) y.k y.n y.lo y.hi (up y.p) 53 : Br ((w.alloc (.cells #[.int .i64 (up x.s), .bool x.k, .int .i64 x.n, .int .i64 x.lo, .int .i64 x.hi, .int .i64 (up x.p)] 53)).alloc (.cells #[.int .i64 (up y.s), .bool y.k, .int .i64 y.n, .int .i64 y.lo, .int .i64 y.hi, .int .i64 (up y.p)] 53)) (w.heap.size + 1) (up y.s) y.k y.n y.lo y.hi (up y.p))
        have xb : Below w.heap.size w ((w.alloc (.cells #[.int .i64 (up x.s), .bool x.k, .int .i64 x.n, .int .i64 x.lo, .int .i64 x.hi, .int .i64 (up x.p)] 53)).alloc (.cells #[.int .i64 (up y.s), .bool y.k, .int .i64 y.n, .int .i64 y.lo, .int .i64 y.hi, .int .i64 (up y.p)] 53)) := (by repeat (first | exact Below.refl _ _ | (refine Below.drew ?_) | (refine below_drewN ?_ _) | (refine Below.setCell ?_ (by first | omega | (simp; done) | (simp; omega)) _) | (refine Below.alloc ?_ (by first | omega | (simp; done) | (simp; omega)) _) | (refine Below.trans ?_ (Below.mono (by assumption) (by first | omega | (simp; done) | (simp; omega))))))
        go_enter Try.func48, Try.ntmps48
        go_upto_region 1 with fail
        go_name_world W hW
        rw [hW] at x0 x1 xb
        clear hW
        obtain ⟨N, hN⟩ : ∃ N, N = w.heap.size := ⟨_, rfl⟩
        rw [← hN] at x0 x1 xb ⊢
        have HN : Hid (N = w.heap.size) := hN
        clear hN
        have HA := hide (And.intro x0 (And.intro x1 xb))
        clear x0 x1 xb
        have a0 := HA.out.1.c0
        have a1 := HA.out.1.c1
        have a2 := HA.out.1.c2
        have a3 := HA.out.1.c3
        have a4 := HA.out.1.c4
        have a5 := HA.out.1.c5
        have b0 := HA.out.2.1.c0
        have b1 := HA.out.2.1.c1
        have b2 := HA.out.2.1.c2
        have b3 := HA.out.2.1.c3
        have b4 := HA.out.2.1.c4
        have b5 := HA.out.2.1.c5
        go_wp2_with (first | (go_at_call 95; refine (c1 _).mono ?_; rintro e w1 ⟨rfl, hb1⟩; have HB := hide (And.intro (HA.out.1.keep hb1) (And.intro (HA.out.2.1.keep hb1) (HA.out.2.2.trans (hb1.mono (Nat.le_of_lt HA.out.1.lt))))); clear HA hb1 a0 a1 a2 a3 a4 a5 b0 b1 b2 b3 b4 b5; have HA := HB; clear HB; have a0 := HA.out.1.c0; have a1 := HA.out.1.c1; have a2 := HA.out.1.c2; have a3 := HA.out.1.c3; have a4 := HA.out.1.c4; have a5 := HA.out.1.c5; have b0 := HA.out.2.1.c0; have b1 := HA.out.2.1.c1; have b2 := HA.out.2.1.c2; have b3 := HA.out.2.1.c3; have b4 := HA.out.2.1.c4; have b5 := HA.out.2.1.c5) | (go_at_call 96; refine (c2 _).mono ?_; rintro e w1 ⟨rfl, hb1⟩; have HB := hide (And.intro (HA.out.1.keep hb1) (And.intro (HA.out.2.1.keep hb1) (HA.out.2.2.trans (hb1.mono (Nat.le_of_lt HA.out.1.lt))))); clear HA hb1 a0 a1 a2 a3 a4 a5 b0 b1 b2 b3 b4 b5; have HA := HB; clear HB; have a0 := HA.out.1.c0; have a1 := HA.out.1.c1; have a2 := HA.out.1.c2; have a3 := HA.out.1.c3; have a4 := HA.out.1.c4; have a5 := HA.out.1.c5; have b0 := HA.out.2.1.c0; have b1 := HA.out.2.1.c1; have b2 := HA.out.2.1.c2; have b3 := HA.out.2.1.c3; have b4 := HA.out.2.1.c4; have b5 := HA.out.2.1.c5) | (go_at_call 97; refine (c3 _).mono ?_; rintro e w1 ⟨rfl, hb1⟩; have HB := hide (And.intro (HA.out.1.keep hb1) (And.intro (HA.out.2.1.keep hb1) (HA.out.2.2.trans (hb1.mono (Nat.le_of_lt HA.out.1.lt))))); clear HA hb1 a0 a1 a2 a3 a4 a5 b0 b1 b2 b3 b4 b5; have HA := HB; clear HB; have a0 := HA.out.1.c0; have a1 := HA.out.1.c1; have a2 := HA.out.1.c2; have a3 := HA.out.1.c3; have a4 := HA.out.1.c4; have a5 := HA.out.1.c5; have b0 := HA.out.2.1.c0; have b1 := HA.out.2.1.c1; have b2 := HA.out.2.1.c2; have b3 := HA.out.2.1.c3; have b4 := HA.out.2.1.c4; have b5 := HA.out.2.1.c5) | (go_at_call 98; refine (c4 _).mono ?_; rintro e w1 ⟨rfl, hb1⟩; have HB := hide (And.intro (HA.out.1.keep hb1) (And.intro (HA.out.2.1.keep hb1) (HA.out.2.2.trans (hb1.mono (Nat.le_of_lt HA.out.1.lt))))); clear HA hb1 a0 a1 a2 a3 a4 a5 b0 b1 b2 b3 b4 b5; have HA := HB; clear HB; have a0 := HA.out.1.c0; have a1 := HA.out.1.c1; have a2 := HA.out.1.c2; have a3 := HA.out.1.c3; have a4 := HA.out.1.c4; have a5 := HA.out.1.c5; have b0 := HA.out.2.1.c0; have b1 := HA.out.2.1.c1; have b2 := HA.out.2.1.c2; have b3 := HA.out.2.1.c3; have b4 := HA.out.2.1.c4; have b5 := HA.out.2.1.c5))
        clear c1 c2 c3 c4
        go_ret
        exact ⟨by rw [HR.out]; rfl, by rw [← HN.out]; exact HA.out.2.2⟩
end Go.Proofs.Ytmhicllhjiglkaa
namespace Go.Proofs.Ytmhicllhjiglkaa
open Go.RowKit
/-- each within the other's -/
def allV : List V → List V → Bool
  | x :: s, y :: t => withinV x y && allV s t
  | [], [] => true
  | _, _ => false
def allS : List (List Int) → List (List Int) → Bool
  | x :: s, y :: t => wiL x y && allS s t
  | [], [] => true
  | _, _ => false
theorem allV_len : ∀ (s t : List V), s.length ≠ t.length → allV s t = false := by
  intro s
  induction s with
  | nil => intro t h; cases t with | nil => exact absurd rfl h | cons y t => rfl
  | cons x s ih => intro t h; cases t with
    | nil => rfl
    | cons y t => rw [allV, ih t (by simpa using h), Bool.and_false]
theorem allS_len : ∀ (s t : List (List Int)), s.length ≠ t.length → allS s t = false := by
  intro s
  induction s with
  | nil => intro t h; cases t with | nil => exact absurd rfl h | cons y t => rfl
  | cons x s ih => intro t h; cases t with
    | nil => rfl
    | cons y t => rw [allS, ih t (by simpa using h), Bool.and_false]
set_option maxRecDepth 100000 in
set_option maxHeartbeats 4000000 in
theorem vwithin_any (us ts : List V) (a b : Option Addr) (c d : Nat) (w : World) (hr : RV w a (us.map V.raw)) (hs : RV w b (ts.map V.raw)) (hl1 : us.length ≤ 100000) (hg : ∀ u ∈ us, u.p &&& 3 = u.p) (hg2 : ∀ u ∈ ts, u.p &&& 3 = u.p) :
    Calls Try.prog 47 #[.slice a us.length c, .slice b ts.length d, .func (.func 48) #[] #[]] w fun e w' => e = .returned (.bool (allV us ts)) ∧ Below w.heap.size w w' := by
  have HR := hide hr
  have HS := hide hs
  have HG := hide (And.intro hg hg2)
  clear hr hs hg hg2
  have i1 : (us.length : Int) ≤ 100000 := by omega
  by_cases hl : us.length = ts.length
  · have hb0 : ((us.length : Int) != ts.length) = false := by simp [hl]
    have HLn := hide hl
    clear hl
    go_enter Try.func47, Try.ntmps47
    go_wp2_with fail
    clear hb0
    go_loopw [17] (fun sk wr => ∃ k : Nat, sk = .int .i64 k ∧ k ≤ us.length ∧ Hid (Below w.heap.size w wr ∧ allV (us.drop k) (ts.drop k) = allV us ts)) (fun sk _ => us.length - (intOf sk).toNat)
    case atStart => exact ⟨0, rfl, Nat.zero_le _, Below.refl _ _, rfl⟩
    case round =>
      obtain ⟨k, rfl, hk, h4⟩ := hrel
      by_cases hkv : k < us.length
      · have hkv2 : (k : Int) < us.length := by omega
        have hkt : k < ts.length := by have := HLn.out; omega
        have hkt2 : (k : Int) < ts.length := by omega
        obtain ⟨b1, o1, x0, hX, rfl, hx6⟩ := HR.out.at (m := k) (by rw [List.length_map]; exact hkv)
        obtain ⟨b2, o2, y0, hY, rfl, hy6⟩ := HS.out.at (m := k) (by rw [List.length_map]; exact hkt)
        obtain ⟨x, hxk, rfl⟩ : ∃ x, us[k]? = some x ∧ x.raw = x0 := by rw [List.getElem?_map, Option.map_eq_some_iff] at hX; exact hX
        obtain ⟨y, hyk, rfl⟩ : ∃ y, ts[k]? = some y ∧ y.raw = y0 := by rw [List.getElem?_map, Option.map_eq_some_iff] at hY; exact hY
        have cW := fun w => within_V x y w (HG.out.1 x (List.mem_of_getElem? hxk)) (HG.out.2 y (List.mem_of_getElem? hyk))
        have HD : Hid (allV us ts = (withinV x y && allV (us.drop (k + 1)) (ts.drop (k + 1)))) := hide (by
          rw [← h4.out.2, List.drop_eq_getElem_cons hkv, List.drop_eq_getElem_cons hkt]
          obtain ⟨_, e1⟩ := List.getElem?_eq_some_iff.1 hxk
          obtain ⟨_, e2⟩ := List.getElem?_eq_some_iff.1 hyk
          rw [e1, e2]; rfl)
        have HX := hide (And.intro hx6 hy6)
        have t6 := hx6.keep h4.out.1
        have d0 := t6.c0
        have d1 := t6.c1
        have d2 := t6.c2
        have d3 := t6.c3
        have d4 := t6.c4
        have d5 := t6.c5
        have HW := hide h4.out.1
        clear hX hY hx6 hy6 hxk hyk t6 h4
        generalize withinV x y = bv at *
        go_upto_region 6 with fail
        go_name_world W6 hW6
        obtain ⟨n8, h8⟩ : ∃ z9, z9 = wr.heap.size := ⟨_, rfl⟩
        rw [← h8]
        have HW6 : Hid (Below wr.heap.size wr W6 ∧ B6 W6 n8 0 x.raw) := hide (by rw [← hW6, h8]; exact ⟨(Below.refl _ _).alloc (Nat.le_refl _) _, B6.new _ _ _⟩)
        clear hW6 h8 d0 d1 d2 d3 d4 d5
        have t7 := (HX.out.2.keep HW.out).keep HW6.out.1
        have d0 := t7.c0
        have d1 := t7.c1
        have d2 := t7.c2
        have d3 := t7.c3
        have d4 := t7.c4
        have d5 := t7.c5
        clear t7
        go_upto_region 7 with fail
        go_name_world W7 hW7
        obtain ⟨n9, h9⟩ : ∃ z9, z9 = W6.heap.size := ⟨_, rfl⟩
        rw [← h9]
        have HW7 : Hid (Below wr.heap.size wr W7 ∧ B6 W7 n8 0 x.raw ∧ B6 W7 n9 0 y.raw) := by
          unfold Hid
          rw [← hW7, h9]
          have u : Below W6.heap.size W6 (W6.alloc (.cells #[.int .i64 y.raw.s, .bool y.raw.k, .int .i64 y.raw.n, .int .i64 y.raw.lo, .int .i64 y.raw.hi, .int .i64 y.raw.p] 53)) := (Below.refl _ _).alloc (Nat.le_refl _) _
          exact ⟨HW6.out.1.trans (u.mono HW6.out.1.size), HW6.out.2.keep u, B6.new _ _ _⟩
        clear hW7 h9 d0 d1 d2 d3 d4 d5 HW6
        have d0 := HW7.out.2.1.c0
        have d1 := HW7.out.2.1.c1
        have d2 := HW7.out.2.1.c2
        have d3 := HW7.out.2.1.c3
        have d4 := HW7.out.2.1.c4
        have d5 := HW7.out.2.1.c5
        have g0 := HW7.out.2.2.c0
        have g1 := HW7.out.2.2.c1
        have g2 := HW7.out.2.2.c2
        have g3 := HW7.out.2.2.c3
        have g4 := HW7.out.2.2.c4
        have g5 := HW7.out.2.2.c5
        have HB := hide (HW.out.trans (HW7.out.1.mono HW.out.size))
        cases bv with
        | false =>
          go_wp2_with (go_at_call 48; refine (cW _).mono ?_; rintro e wZ ⟨rfl, hZ⟩; replace hZ := hide hZ; clear cW)
          go_ret
          exact ⟨by rw [HD.out]; rfl, HB.out.trans (hZ.out.mono HB.out.size)⟩
        | true =>
          have HE : Hid (allV us ts = allV (us.drop (k + 1)) (ts.drop (k + 1))) := hide (by rw [HD.out, Bool.true_and])
          clear HD
          go_wp2_with (go_at_call 48; refine (cW _).mono ?_; rintro e wZ ⟨rfl, hZ⟩; replace hZ := hide hZ; clear cW)
          exact ⟨⟨k + 1, by simp, by omega, ⟨HB.out.trans (hZ.out.mono HB.out.size), HE.out.symm⟩⟩, by simp [intOf]; omega⟩
      · have hke : k = us.length := by omega
        subst hke
        have HE : Hid (allV us ts = true) := hide (by rw [← h4.out.2, List.drop_of_length_le (Nat.le_refl _), List.drop_of_length_le (by have := HLn.out; omega)]; rfl)
        go_wp2
        go_ret
        exact ⟨by rw [HE.out]; rfl, h4.out.1⟩
  · have hb0 : ((us.length : Int) != ts.length) = true := by rw [bne_iff_ne]; omega
    rw [allV_len us ts hl]
    go_enter Try.func47, Try.ntmps47
    go_wp2
    go_ret
    exact ⟨by simp, Below.refl _ _⟩
set_option maxRecDepth 100000 in
set_option maxHeartbeats 4000000 in
theorem swithin_S (ss tt : List (List Int)) (a b : Option Addr) (c d : Nat) (w : World) (hr : RR w a ss) (hs : RR w b tt) (hl1 : ss.length ≤ 100000) (hi1 : ∀ l ∈ ss, l.length ≤ 100000) :
    Calls Try.prog 49 #[.slice a ss.length c, .slice b tt.length d, .func (.func 50) #[] #[]] w fun e w' => e = .returned (.bool (allS ss tt)) ∧ Below w.heap.size w w' := by
  have HR := hide hr
  have HS := hide hs
  have HI := hide hi1
  clear hr hs hi1
  have i1 : (ss.length : Int) ≤ 100000 := by omega
  by_cases hl : ss.length = tt.length
  · have hb0 : ((ss.length : Int) != tt.length) = false := by simp [hl]
    have HLn := hide hl
    clear hl
    go_enter Try.func49, Try.ntmps49
    go_wp2_with fail
    clear hb0
    go_loop [17] (fun sk => ∃ k : Nat, sk = .int .i64 k ∧ k ≤ ss.length ∧ Hid (allS (ss.drop k) (tt.drop k) = allS ss tt)) (fun sk => ss.length - (intOf sk).toNat)
    case atStart => exact ⟨0, rfl, Nat.zero_le _, rfl⟩
    case round =>
      obtain ⟨k, rfl, hk, h4⟩ := hrel
      by_cases hkv : k < ss.length
      · have hkv2 : (k : Int) < ss.length := by omega
        have hkt : k < tt.length := by have := HLn.out; omega
        have hkt2 : (k : Int) < tt.length := by omega
        obtain ⟨b1, o1, l, ai, ci, hX, rfl, f1, f2, f3, f4⟩ := HR.out.at hkv
        obtain ⟨b2, o2, m, aj, cj, hY, rfl, f5, f6, f7, f8⟩ := HS.out.at hkt
        have hll := HI.out l (List.mem_of_getElem? hX)
        have cS := bwithin_any l m ai aj ci cj w f2 f6 (by omega) f7
        have HD : Hid (allS ss tt = (wiL l m && allS (ss.drop (k + 1)) (tt.drop (k + 1)))) := hide (by
          rw [← h4.out, List.drop_eq_getElem_cons hkv, List.drop_eq_getElem_cons hkt]
          obtain ⟨_, e1⟩ := List.getElem?_eq_some_iff.1 hX
          obtain ⟨_, e2⟩ := List.getElem?_eq_some_iff.1 hY
          rw [e1, e2]; rfl)
        clear hX hY f2 f3 f4 f6 f7 f8 h4
        generalize wiL l m = bv at *
        cases bv with
        | false =>
          go_wp2_with (go_at_call 50; refine cS.mono ?_; rintro e w' ⟨hw, rfl⟩; obtain rfl := hw.symm; clear cS)
          go_ret
          exact ⟨by rw [HD.out]; rfl, Below.refl _ _⟩
        | true =>
          have HE : Hid (allS ss tt = allS (ss.drop (k + 1)) (tt.drop (k + 1))) := hide (by rw [HD.out, Bool.true_and])
          clear HD
          go_wp2_with (go_at_call 50; refine cS.mono ?_; rintro e w' ⟨hw, rfl⟩; obtain rfl := hw.symm; clear cS)
          exact ⟨⟨k + 1, by simp, by omega, HE.out.symm⟩, by simp [intOf]; omega⟩
      · have hke : k = ss.length := by omega
        subst hke
        have HE : Hid (allS ss tt = true) := hide (by rw [← h4.out, List.drop_of_length_le (Nat.le_refl _), List.drop_of_length_le (by have := HLn.out; omega)]; rfl)
        go_wp2
        go_ret
        exact ⟨by rw [HE.out]; rfl, Below.refl _ _⟩
  · have hb0 : ((ss.length : Int) != tt.length) = true := by rw [bne_iff_ne]; omega
    rw [allS_len ss tt hl]
    go_enter Try.func49, Try.ntmps49
    go_wp2
    go_ret
    exact ⟨by simp, Below.refl _ _⟩
end Go.Proofs.Ytmhicllhjiglkaa
namespace Go.Proofs.Ytmhicllhjiglkaa
open Go.RowKit
theorem vequal_t (vs : List R) (a b : Option Addr) (c d : Nat) (w : World) (hr : RV w a vs) (hs : RV w b vs) (hl1 : vs.length ≤ 100000) :
    Calls Try.prog 54 #[.slice a vs.length c, .slice b vs.length d] w fun e w' => e = .returned (.bool true) ∧ Below w.heap.size w w' :=
  (vequal_any vs vs a b c d w hr hs hl1 hl1).mono fun _ _ ⟨bv, h1, ⟨n, h2⟩, h3⟩ => ⟨by rw [h1, h3.2 rfl], by rw [h2]; exact below_drewN (Below.refl _ _) n⟩
theorem vequal_f (vs ts : List R) (a b : Option Addr) (c d : Nat) (w : World) (hr : RV w a vs) (hs : RV w b ts) (hl1 : vs.length ≤ 100000) (hl2 : ts.length ≤ 100000) (hne : vs ≠ ts) :
    Calls Try.prog 54 #[.slice a vs.length c, .slice b ts.length d] w fun e w' => e = .returned (.bool false) ∧ Below w.heap.size w w' :=
  (vequal_any vs ts a b c d w hr hs hl1 hl2).mono fun _ _ ⟨bv, h1, ⟨n, h2⟩, h3⟩ => ⟨by rw [h1]; cases bv with | false => rfl | true => exact absurd (h3.1 rfl) hne, by rw [h2]; exact below_drewN (Below.refl _ _) n⟩
theorem sequal_t (ss : List (List Int)) (a b : Option Addr) (c d : Nat) (w : World) (hr : RR w a ss) (hs : RR w b ss) (hl1 : ss.length ≤ 100000) (hi1 : ∀ l ∈ ss, l.length ≤ 100000) :
    Calls Try.prog 49 #[.slice a ss.length c, .slice b ss.length d, .func (.func 55) #[] #[]] w fun e w' => e = .returned (.bool true) ∧ Below w.heap.size w w' :=
  (sequal_any ss ss a b c d w hr hs hl1 hl1 hi1 hi1).mono fun _ _ ⟨bv, h1, ⟨n, h2⟩, h3⟩ => ⟨by rw [h1, h3.2 rfl], by rw [h2]; exact below_drewN (Below.refl _ _) n⟩
theorem sequal_f (ss tt : List (List Int)) (a b : Option Addr) (c d : Nat) (w : World) (hr : RR w a ss) (hs : RR w b tt) (hl1 : ss.length ≤ 100000) (hl2 : tt.length ≤ 100000) (hi1 : ∀ l ∈ ss, l.length ≤ 100000) (hi2 : ∀ l ∈ tt, l.length ≤ 100000) (hne : ss ≠ tt) :
    Calls Try.prog 49 #[.slice a ss.length c, .slice b tt.length d, .func (.func 55) #[] #[]] w fun e w' => e = .returned (.bool false) ∧ Below w.heap.size w w' :=
  (sequal_any ss tt a b c d w hr hs hl1 hl2 hi1 hi2).mono fun _ _ ⟨bv, h1, ⟨n, h2⟩, h3⟩ => ⟨by rw [h1]; cases bv with | false => rfl | true => exact absurd (h3.1 rfl) hne, by rw [h2]; exact below_drewN (Below.refl _ _) n⟩
set_option maxRecDepth 100000 in
set_option maxHeartbeats 8000000 in
theorem equal_S {v1 v2 : Value} {s1 s2 : S} {w : World} (h1 : Rs w v1 s1) (h2 : Rs w v2 s2) (hl1 : s1.vs.length ≤ 100000) (hl2 : s2.vs.length ≤ 100000) (hl3 : s1.ss.length ≤ 100000) (hl4 : s2.ss.length ≤ 100000) (hi1 : ∀ l ∈ s1.ss, l.length ≤ 100000) (hi2 : ∀ l ∈ s2.ss, l.length ≤ 100000) :
    Calls Try.prog 20 #[v1, v2] w fun e w' => ∃ bv, e = .returned (.bool bv) ∧ Below w.heap.size w w' ∧ (bv = true ↔ s1 = s2) := by
  obtain ⟨a, c, b, d, rfl, e1, e2, -⟩ := h1
  obtain ⟨a2, c2, b2, d2, rfl, f1, f2, -⟩ := h2
  obtain ⟨r, vs, ss⟩ := s1
  obtain ⟨r2, ts, tt⟩ := s2
  dsimp only at *
  by_cases hr : r = r2
  · subst hr
    by_cases hv : vs = ts
    · subst hv
      have cV := fun w' (h : Below w.heap.size w w') => vequal_t vs a a2 c c2 w' (e1.keep h) (f1.keep h) hl1
      by_cases hs : ss = tt
      · subst hs
        have cS := fun w' (h : Below w.heap.size w w') => sequal_t ss b b2 d d2 w' (e2.keep h) (f2.keep h) hl3 hi1
        clear e1 e2 f1 f2 hi1 hi2
        go_enter Try.func20, Try.ntmps20
        go_upto_region 1 with fail
        go_name_world W hW
        obtain ⟨B0, -, B1, -, u⟩ := boxes2 w _ _ _ _ _ _ _ _ W hW
        have HU := hide u
        have HB := hide (And.intro B0 B1)
        have x0 := B0.c0
        have x1 := B0.c1
        have x2 := B1.c0
        have x3 := B1.c1
        clear hW B0 B1 u
        go_wp2_with (first | (go_at_call 54; refine (cV _ HU.out).mono ?_; rintro e wA ⟨rfl, hA⟩; have HA := hide hA; have y0 := (HB.out.1.keep hA).c2; have y1 := (HB.out.2.keep hA).c2; clear hA cV x0 x1 x2 x3) | (go_at_call 49; refine (cS _ (HU.out.trans (HA.out.mono HU.out.size))).mono ?_; rintro e wB ⟨rfl, hB⟩; replace hB := hide hB; clear cS))
        go_ret
        exact ⟨true, by simp, HU.out.trans ((HA.out.trans (hB.out.mono HA.out.size)).mono HU.out.size), by simp⟩
      · have cS := fun w' (h : Below w.heap.size w w') => sequal_f ss tt b b2 d d2 w' (e2.keep h) (f2.keep h) hl3 hl4 hi1 hi2 hs
        clear e1 e2 f1 f2 hi1 hi2
        go_enter Try.func20, Try.ntmps20
        go_upto_region 1 with fail
        go_name_world W hW
        obtain ⟨B0, -, B1, -, u⟩ := boxes2 w _ _ _ _ _ _ _ _ W hW
        have HU := hide u
        have HB := hide (And.intro B0 B1)
        have x0 := B0.c0
        have x1 := B0.c1
        have x2 := B1.c0
        have x3 := B1.c1
        clear hW B0 B1 u
        go_wp2_with (first | (go_at_call 54; refine (cV _ HU.out).mono ?_; rintro e wA ⟨rfl, hA⟩; have HA := hide hA; have y0 := (HB.out.1.keep hA).c2; have y1 := (HB.out.2.keep hA).c2; clear hA cV x0 x1 x2 x3) | (go_at_call 49; refine (cS _ (HU.out.trans (HA.out.mono HU.out.size))).mono ?_; rintro e wB ⟨rfl, hB⟩; replace hB := hide hB; clear cS))
        go_ret
        exact ⟨false, by simp, HU.out.trans ((HA.out.trans (hB.out.mono HA.out.size)).mono HU.out.size), by simp; exact hs⟩
    · have cV := fun w' (h : Below w.heap.size w w') => vequal_f vs ts a a2 c c2 w' (e1.keep h) (f1.keep h) hl1 hl2 hv
      clear e1 e2 f1 f2 hi1 hi2
      go_enter Try.func20, Try.ntmps20
      go_upto_region 1 with fail
      go_name_world W hW
      obtain ⟨B0, -, B1, -, u⟩ := boxes2 w _ _ _ _ _ _ _ _ W hW
      have HU := hide u
      have x0 := B0.c0
      have x1 := B0.c1
      have x2 := B1.c0
      have x3 := B1.c1
      clear hW B0 B1 u
      go_wp2_with (go_at_call 54; refine (cV _ HU.out).mono ?_; rintro e wA ⟨rfl, hA⟩; replace hA := hide hA; clear cV x0 x1 x2 x3)
      go_ret
      exact ⟨false, by simp, HU.out.trans (hA.out.mono HU.out.size), by simp; exact fun t => absurd t hv⟩
  · have hb : (r == r2) = false := by simp [hr]
    go_enter Try.func20, Try.ntmps20
    go_upto_region 1 with fail
    go_name_world W hW
    obtain ⟨B0, -, B1, -, u⟩ := boxes2 w _ _ _ _ _ _ _ _ W hW
    have HU := hide u
    have x0 := B0.c0
    have x2 := B1.c0
    clear hW B0 B1 u
    go_wp2
    go_ret
    exact ⟨false, by simp, HU.out, by simp; exact fun t => absurd t hr⟩
end Go.Proofs.Ytmhicllhjiglkaa
