import Derived.Test.YtmhicllhjiglkaaG12
import Derived.Test.YtmhicllhjiglkaaG04
import Derived.Deep.RegionHeld3
namespace Go.Proofs.Ytmhicllhjiglkaa
open Go.RowKit
theorem Own3.rn {w : World} {N : Nat} {T : TypeId} {v : Value} {s : S} (h : Own3 w N T v s) : Rn w N v s := by
  obtain ⟨a, c, b, d, es, rfl, h1, h2, h3, h4⟩ := own3_form h
  have hlv := h1.lt
  have hls := h2.lt
  obtain ⟨_, c', e1, l1, l2⟩ := h1.slice
  obtain ⟨_, d', e2, l3, l4⟩ := h2.slice
  simp only [Value.slice.injEq] at e1 e2
  obtain ⟨rfl, -, rfl⟩ := e1
  obtain ⟨rfl, e3, rfl⟩ := e2
  refine ⟨a, c, b, d, rfl, fun m x hx => ?_, fun m l hl => ?_, l1, by omega, l2, l4⟩
  · obtain ⟨b1, o1, rfl, e2⟩ := h1.rv m x hx
    exact ⟨b1, o1, rfl, (hlv b1 rfl).1, e2⟩
  · obtain ⟨e, k5, k6⟩ := h3.2 m l hl
    obtain ⟨b1, o1, rfl, k7⟩ := h2.cell k5
    exact ⟨b1, o1, e, rfl, (hls b1 rfl).1, k7, k6.rl, fun k hk => (k6.lt k hk).1⟩
theorem Lz.setV {w : World} {N q k g n c : Nat} {T : TypeId} {s : S} {sa : Value} {es : List Value} (h : Lz w N q T s (.slice (some ⟨g, 0, none⟩) n c) sa es) (hT : T ≠ 38 ∧ T ≠ 3) (hk : k < s.vs.length) (y : R) : Rn (st6o w g (k * 6) (.int .i64 y.s) (.bool y.k) (.int .i64 y.n) (.int .i64 y.lo) (.int .i64 y.hi) (.int .i64 y.p)) N (.agg #[.bool s.r, .slice (some ⟨g, 0, none⟩) n c, sa]) ⟨s.r, s.vs.set k y, s.ss⟩ := by
  have f1 : ∀ k', k' ≠ g → (st6o w g (k * 6) (.int .i64 y.s) (.bool y.k) (.int .i64 y.n) (.int .i64 y.lo) (.int .i64 y.hi) (.int .i64 y.p)).heap[k']? = w.heap[k']? := fun k' hk' => st6o_block _ _ _ _ _ _ _ _ _ k' hk'
  have g1 := (h.ov.lt g rfl).1
  have hv := rv_set h.ov.rv hk y
  have hO := h.os.of (fun k' hk' => f1 k' (fun e => own_ne h.os h.ov (fun t => hT.1 t.symm) k' hk' (by rw [e]; rfl)))
  have hI : Inn (st6o w g (k * 6) (.int .i64 y.s) (.bool y.k) (.int .i64 y.n) (.int .i64 y.lo) (.int .i64 y.hi) (.int .i64 y.p)) N es s.ss := ⟨h.inn.1, fun m l hm => by
    obtain ⟨e, h1, h2⟩ := h.inn.2 m l hm
    exact ⟨e, h1, h2.of (fun k' hk' => f1 k' (fun t => own_ne h2 h.ov (fun t => hT.2 t.symm) k' hk' (by rw [t]; rfl)))⟩⟩
  obtain ⟨_, c', e1, l1, l2⟩ := h.ov.slice
  simp only [Value.slice.injEq] at e1
  obtain ⟨b, d, e2, l3, l4⟩ := hO.slice
  subst e2
  have e5 := hI.1
  obtain ⟨-, e6, rfl⟩ := e1
  have hls := hO.lt
  refine ⟨some ⟨g, 0, none⟩, c, b, d, by rw [List.length_set, ← e6, e5], fun m x hx => ?_, fun m l hl => ?_, by rw [List.length_set]; exact l1, by rw [← e5]; exact l3, fun e => (by cases e), l4⟩
  · obtain ⟨b1, o1, eq, h6⟩ := hv m x hx
    obtain ⟨rfl, rfl⟩ : g = b1 ∧ 0 = o1 := by simpa using eq
    exact ⟨g, 0, rfl, g1, h6⟩
  · obtain ⟨e, k5, k6⟩ := hI.2 m l hl
    obtain ⟨b1, o1, rfl, k7⟩ := hO.cell k5
    exact ⟨b1, o1, e, rfl, (hls b1 rfl).1, k7, k6.rl, fun k hk => (k6.lt k hk).1⟩
theorem hasReg_any9 (r : Bool) (a b : Option Addr) (n m c d : Nat) (i : Int) (w : World) (h : m = n) :
    Calls Try.prog 67 #[.agg #[.bool r, .slice a n c, .slice b m d], .int .i64 i] w fun e w' => e = .returned (.bool (decide (r = true ∧ 0 ≤ i ∧ i < (n : Int)))) ∧ Below w.heap.size w w' := by subst h; exact hasReg_any r a b m c d i w
theorem branch_not {x : VS} {i : Int} {yes : Bool} (h : ¬ isReg x i) : branchVS x i yes = x := by unfold branchVS; rw [if_neg h]
theorem branch_off {us : List V} {k : Nat} {u : V} {yes : Bool} (hu : us[k]? = some u) (h : (branchV u yes).2 = false) (ss : List (List Int)) : branchVS ⟨true, us, ss⟩ k yes = ⟨false, [], []⟩ := by
  have hk : k < us.length := (List.getElem?_eq_some_iff.1 hu).1
  unfold branchVS
  rw [if_pos ⟨rfl, by omega, by dsimp only; omega⟩]
  dsimp only
  rw [Int.toNat_natCast, hu]
  dsimp only
  rw [if_neg (by simp [h])]
theorem branch_on {us : List V} {k : Nat} {u : V} {yes : Bool} (hu : us[k]? = some u) (h : (branchV u yes).2 = true) (ss : List (List Int)) : branchVS ⟨true, us, ss⟩ k yes = ⟨true, us.set k (branchV u yes).1, ss⟩ := by
  have hk : k < us.length := (List.getElem?_eq_some_iff.1 hu).1
  unfold branchVS
  rw [if_pos ⟨rfl, by omega, by dsimp only; omega⟩]
  dsimp only
  rw [Int.toNat_natCast, hu]
  dsimp only
  rw [if_pos h]
set_option maxRecDepth 100000 in
set_option maxHeartbeats 8000000 in
theorem branch_S0 (a b : Option Addr) (c d : Nat) (r : Bool) (us : List V) (ss : List (List Int)) (i : Int) (yes : Bool) (w : World) (hv0 : RV w a (us.map V.raw)) (hs : RR w b ss) (hvc : us.length ≤ c) (hva : a = none → c = 0) (hl1 : us.length ≤ 100000) (hl2 : ss.length = us.length) (hl3 : ∀ (m : Nat) (l : List Int), ss[m]? = some l → l.length ≤ 100000) :
    Calls Try.prog 33 #[.agg #[.bool r, .slice a us.length c, .slice b ss.length d], .int .i64 i, .bool yes] w fun e w' => ∃ v, e = .returned v ∧ Below w.heap.size w w' ∧ Rs w' v (branchVS ⟨r, us, ss⟩ i yes).raw := by
  obtain ⟨z, hz⟩ : ∃ z, z = (branchVS ⟨r, us, ss⟩ i yes).raw := ⟨_, rfl⟩
  rw [← hz]
  have HZ := hide hz
  clear hz
  obtain ⟨vs, hvs⟩ : ∃ vs, vs = us.map V.raw := ⟨_, rfl⟩
  have hvl : us.length = vs.length := by rw [hvs, List.length_map]
  rw [← hvs] at hv0
  have HVS := hide hvs
  clear hvs
  have cC : ∀ w', Below w.heap.size w w' → _ := fun w' h => copyO a b c d r vs ss w' (hv0.keep h) (hs.keep h) (by omega) hva (by omega) (by omega) hl3
  have HV := hide hv0
  have cR := fun w => hasReg_any9 r a b us.length ss.length c d i w hl2
  rw [hvl] at cR ⊢
  have HL2 := hide hl2
  have HVL := hide hvl
  clear hv0 hs hvc hva hl3 hl2 hvl
  go_enter Try.func33, Try.ntmps33
  go_upto_region 1 with fail
  go_name_world W hW
  obtain ⟨q6, h6⟩ : ∃ z9, z9 = w.heap.size + 1 := ⟨_, rfl⟩
  rw [← h6]
  obtain ⟨q3, h3⟩ : ∃ z9, z9 = w.heap.size := ⟨_, rfl⟩
  rw [← h3]
  obtain ⟨B3, -, B6, F6, u⟩ := boxes2 w _ _ _ _ _ _ _ _ W hW
  rw [← h3] at B3
  rw [← h6] at B6 F6
  have HB := hide (And.intro B3 (And.intro B6 (And.intro F6 u)))
  have HQ : Hid (w.heap.size ≤ q6) := hide (by omega)
  clear hW h6 h3 B3 B6 F6 u
  have x0 := HB.out.1.c0
  have x1 := HB.out.1.c1
  have x2 := HB.out.1.c2
  have KEEP : ∀ W3, Below W.heap.size W W3 → Hid (Bs W3 q3 r (.slice a vs.length c) (.slice b ss.length d) ∧ Bs W3 q6 false (.slice none 0 0) (.slice none 0 0) ∧ Fs W3 q6 ∧ Below w.heap.size w W3) := fun W3 hR => hide ⟨HB.out.1.keep hR, HB.out.2.1.keep hR, HB.out.2.2.1.of (hR.block _ HB.out.2.1.lt), HB.out.2.2.2.trans (hR.mono HB.out.2.2.2.size)⟩
  clear HB
  by_cases hc : r = true ∧ 0 ≤ i ∧ i < (vs.length : Int)
  · obtain ⟨rfl, hc0⟩ := hc
    obtain ⟨k, rfl⟩ : ∃ k : Nat, i = k := ⟨i.toNat, by omega⟩
    have hk : k < vs.length := by omega
    have hk2 : (k : Int) < vs.length := by omega
    have hku : k < us.length := by have := HVL.out; omega
    obtain ⟨hc1, -⟩ := hc0
    rw [decide_eq_true (show (true : Bool) = true ∧ (0 : Int) ≤ (k : Int) ∧ (k : Int) < (vs.length : Int) from ⟨rfl, hc1, hk2⟩)] at cR
    obtain ⟨uu, hu⟩ : ∃ u, us[k]? = some u := ⟨_, List.getElem?_eq_getElem hku⟩
    have HU := hide hu
    obtain ⟨b1, o1, xr, hX, rfl, hx6⟩ := HV.out.at hk
    obtain rfl : xr = uu.raw := by rw [HVS.out, List.getElem?_map, hu] at hX; exact (Option.some.inj hX).symm
    have H6 := hide hx6
    clear hX hx6 hu
    have cB := fun w => branch_V uu yes w
    obtain ⟨bu, hbu⟩ : ∃ z9, z9 = branchV uu yes := ⟨_, rfl⟩
    rw [← hbu] at cB
    have HBU := hide hbu
    clear hbu
    go_upto_region 3 with (go_at_call 67; refine (cR _).mono ?_; rintro e W3 ⟨rfl, hR⟩; have K := KEEP _ hR; clear KEEP cR hR x0 x1 x2)
    have x1 := K.out.1.c1
    have m6 := H6.out.keep K.out.2.2.2
    have m0 := m6.c0
    have m1 := m6.c1
    have m2 := m6.c2
    have m3 := m6.c3
    have m4 := m6.c4
    have m5 := m6.c5
    clear m6
    go_upto_region 4 with (go_at_call 69; refine (cB _).mono ?_; rintro e WB ⟨rfl, hB⟩; replace hB := hide hB; clear cB x1 m0 m1 m2 m3 m4 m5)
    go_name_world W4 hW4
    obtain ⟨q7, hq7⟩ : ∃ z9, z9 = WB.heap.size := ⟨_, rfl⟩
    rw [← hq7]
    have K4 : Hid (Bs W4 q3 true (.slice (some ⟨b1, o1, none⟩) vs.length c) (.slice b ss.length d) ∧ Bs W4 q6 false (.slice none 0 0) (.slice none 0 0) ∧ Fs W4 q6 ∧ Below w.heap.size w W4 ∧ B6 W4 q7 0 bu.1.raw) := by
      have u2 : Below WB.heap.size WB W4 := hW4 ▸ (Below.refl _ _).alloc (Nat.le_refl _) _
      have g := hB.out.trans (u2.mono hB.out.size)
      have n6 : B6 W4 q7 0 bu.1.raw := by rw [← hW4, hq7]; exact B6.new _ bu.1.raw _
      exact hide ⟨K.out.1.keep g, K.out.2.1.keep g, K.out.2.2.1.of (g.block _ K.out.2.1.lt), K.out.2.2.2.trans (g.mono K.out.2.2.2.size), n6⟩
    clear hW4 hq7 hB K
    obtain ⟨bv, hbv⟩ : ∃ z9, z9 = bu.2 := ⟨_, rfl⟩
    try rw [← hbv]
    cases bv with
    | false =>
      have HR := hide (branch_off HU.out (HBU.out ▸ hbv.symm) ss : branchVS ⟨true, us, ss⟩ k yes = ⟨false, [], []⟩)
      clear hbv
      have z0 := K4.out.2.1.c0
      have z1 := K4.out.2.1.c1
      have z2 := K4.out.2.1.c2
      have y0 := K4.out.2.2.1.f0
      have y1 := K4.out.2.2.1.f1
      have y2 := K4.out.2.2.1.f2
      go_wp2_with (go_at_call 37; refine (none_S _).mono ?_; rintro e wN ⟨rfl, hbN⟩; have F2 := hide (And.intro (K4.out.2.1.keep hbN) (And.intro (K4.out.2.2.1.of (hbN.block q6 K4.out.2.1.lt)) (K4.out.2.2.2.1.trans (hbN.mono K4.out.2.2.2.1.size)))); clear K4 z0 z1 z2 y0 y1 y2 hbN; have z0 := F2.out.1.c0; have z1 := F2.out.1.c1; have z2 := F2.out.1.c2; have y0 := F2.out.2.1.f0; have y1 := F2.out.2.1.f1; have y2 := F2.out.2.1.f2)
      have x := F2.out.1.put3 false (.slice none 0 0) (.slice none 0 0)
      have v0 := x.c0
      have v1 := x.c1
      have v2 := x.c2
      clear z0 z1 z2 y0 y1 y2
      exact bodyPost_ret (by simp [results, Try.results33, go_sem, v0, v1, v2]; try rfl) rfl ⟨_, rfl, st3_below F2.out.2.2 q6 HQ.out false (.slice none 0 0) (.slice none 0 0), by rw [HZ.out, HR.out]; exact (rn_none _ 0).rs⟩
    | true =>
      have HR := hide (branch_on HU.out (HBU.out ▸ hbv.symm) ss : branchVS ⟨true, us, ss⟩ k yes = ⟨true, us.set k (branchV uu yes).1, ss⟩)
      clear hbv
      have x0 := K4.out.1.c0
      have x1 := K4.out.1.c1
      have x2 := K4.out.1.c2
      have cC2 := cC _ K4.out.2.2.2.1
      go_upto_region 7 with (go_at_call 22; refine cC2.mono ?_; rintro e wB ⟨v, rfl, hO, hB⟩; obtain ⟨a5, c5, b5, d5, es, rfl, h1, h2, h3, h4⟩ := own3_form hO; dsimp only at h1 h2 h3 ⊢; clear hO cC2 cC x0 x1 x2; replace hB := hide hB; replace h1 := hide h1; replace h2 := hide h2; replace h3 := hide h3; replace h4 := hide h4)
      go_name_world W7 hW7
      obtain ⟨k9, hk9⟩ : ∃ z9, z9 = wB.heap.size := ⟨_, rfl⟩
      rw [← hk9]
      obtain ⟨N, hN⟩ : ∃ z9, z9 = W4.heap.size := ⟨_, rfl⟩
      have L7 : Hid (Lz W7 N k9 53 ⟨true, vs, ss⟩ (.slice a5 vs.length c5) (.slice b5 ss.length d5) es) := by
        rw [← hW7, hk9, hN]
        exact hide (Lz.start (s := ⟨true, vs, ss⟩) h1.out h2.out h3.out h4.out)
      have u2 : Below wB.heap.size wB W7 := hW7 ▸ (Below.refl _ _).alloc (Nat.le_refl _) _
      have bW := hB.out.trans (u2.mono hB.out.size)
      have K7 : Hid (Bs W7 q6 false (.slice none 0 0) (.slice none 0 0) ∧ Fs W7 q6 ∧ Below w.heap.size w W7 ∧ B6 W7 q7 0 bu.1.raw ∧ q6 < N ∧ q7 < N) := hide ⟨K4.out.2.1.keep bW, K4.out.2.2.1.of (bW.block _ K4.out.2.1.lt), K4.out.2.2.2.1.trans (bW.mono K4.out.2.2.2.1.size), K4.out.2.2.2.2.keep bW, by rw [hN]; exact K4.out.2.1.lt, by rw [hN]; exact K4.out.2.2.2.2.lt⟩
      clear hW7 hk9 hN h1 h2 h3 h4 hB u2 bW K4
      obtain ⟨g, rfl, FZ⟩ := L7.out.ov.some9 (by omega)
      have FG := hide FZ
      clear FZ
      obtain ⟨bq, oq, eqq, xx6⟩ := L7.out.ov.rv k (vs[k]) (by simp [hk])
      obtain ⟨rfl, rfl⟩ : g = bq ∧ 0 = oq := by simpa using eqq
      rw [Nat.zero_add] at xx6
      have b1' := L7.out.bx.c1
      have v6 := K7.out.2.2.2.1
      have v0 := v6.c0
      have v1 := v6.c1
      have v2 := v6.c2
      have v3 := v6.c3
      have v4 := v6.c4
      have v5 := v6.c5
      have m0 := xx6.c0
      have m1 := xx6.c1
      have m2 := xx6.c2
      have m3 := xx6.c3
      have m4 := xx6.c4
      have m5 := xx6.c5
      have f0 := FG.out (k * 6)
      have f1 := FG.out (k * 6 + 1)
      have f2 := FG.out (k * 6 + 2)
      have f3 := FG.out (k * 6 + 3)
      have f4 := FG.out (k * 6 + 4)
      have f5 := FG.out (k * 6 + 5)
      clear v6 xx6 eqq
      go_upto_region 8 with fail
      go_name_world W8 hW8
      have G8 : Hid (Bs W8 k9 true (.slice (some ⟨g, 0, none⟩) vs.length c5) (.slice b5 ss.length d5) ∧ Bs W8 q6 false (.slice none 0 0) (.slice none 0 0) ∧ Fs W8 q6 ∧ Below w.heap.size w W8 ∧ Rn W8 N (.agg #[.bool true, .slice (some ⟨g, 0, none⟩) vs.length c5, .slice b5 ss.length d5]) ⟨true, vs.set k bu.1.raw, ss⟩) := by
        have f1 : ∀ k', k' ≠ g → (st6o W7 g (k * 6) (.int .i64 bu.1.raw.s) (.bool bu.1.raw.k) (.int .i64 bu.1.raw.n) (.int .i64 bu.1.raw.lo) (.int .i64 bu.1.raw.hi) (.int .i64 bu.1.raw.p)).heap[k']? = W7.heap[k']? := fun k' hk' => st6o_block _ _ _ _ _ _ _ _ _ k' hk'
        have g1 := (L7.out.ov.lt g rfl).1
        have g3 := L7.out.lv g rfl
        have g4 := K7.out.2.2.2.2.1
        have g5 := HQ.out
        have t : Bs (st6o W7 g (k * 6) (.int .i64 bu.1.raw.s) (.bool bu.1.raw.k) (.int .i64 bu.1.raw.n) (.int .i64 bu.1.raw.lo) (.int .i64 bu.1.raw.hi) (.int .i64 bu.1.raw.p)) k9 true (.slice (some ⟨g, 0, none⟩) vs.length c5) (.slice b5 ss.length d5) ∧ Bs (st6o W7 g (k * 6) (.int .i64 bu.1.raw.s) (.bool bu.1.raw.k) (.int .i64 bu.1.raw.n) (.int .i64 bu.1.raw.lo) (.int .i64 bu.1.raw.hi) (.int .i64 bu.1.raw.p)) q6 false (.slice none 0 0) (.slice none 0 0) ∧ Fs (st6o W7 g (k * 6) (.int .i64 bu.1.raw.s) (.bool bu.1.raw.k) (.int .i64 bu.1.raw.n) (.int .i64 bu.1.raw.lo) (.int .i64 bu.1.raw.hi) (.int .i64 bu.1.raw.p)) q6 ∧ Below w.heap.size w (st6o W7 g (k * 6) (.int .i64 bu.1.raw.s) (.bool bu.1.raw.k) (.int .i64 bu.1.raw.n) (.int .i64 bu.1.raw.lo) (.int .i64 bu.1.raw.hi) (.int .i64 bu.1.raw.p)) ∧ Rn (st6o W7 g (k * 6) (.int .i64 bu.1.raw.s) (.bool bu.1.raw.k) (.int .i64 bu.1.raw.n) (.int .i64 bu.1.raw.lo) (.int .i64 bu.1.raw.hi) (.int .i64 bu.1.raw.p)) N (.agg #[.bool true, .slice (some ⟨g, 0, none⟩) vs.length c5, .slice b5 ss.length d5]) ⟨true, vs.set k bu.1.raw, ss⟩ :=
          ⟨L7.out.bx.of (f1 _ (by omega)), K7.out.1.of (f1 _ (by omega)), K7.out.2.1.of (f1 _ (by omega)), st6o_below K7.out.2.2.1 g _ (by omega) _ _ _ _ _ _, L7.out.setV (s := ⟨true, vs, ss⟩) (by decide) hk bu.1.raw⟩
        unfold st6o at t
        rw [show W8 = _ from hW8.symm]
        exact hide t
      have hq6N := K7.out.2.2.2.2.1
      clear hW8 L7 K7 FG b1' v0 v1 v2 v3 v4 v5 m0 m1 m2 m3 m4 m5 f0 f1 f2 f3 f4 f5
      have z0 := G8.out.1.c0
      have z1 := G8.out.1.c1
      have z2 := G8.out.1.c2
      have x0 := G8.out.2.1.c0
      have x1 := G8.out.2.1.c1
      have x2 := G8.out.2.1.c2
      have y0 := G8.out.2.2.1.f0
      have y1 := G8.out.2.2.1.f1
      have y2 := G8.out.2.2.1.f2
      go_wp2_with fail
      have x := G8.out.2.1.put3 true (.slice (some ⟨g, 0, none⟩) vs.length c5) (.slice b5 ss.length d5)
      have v0 := x.c0
      have v1 := x.c1
      have v2 := x.c2
      clear z0 z1 z2 x0 x1 x2 y0 y1 y2
      exact bodyPost_ret (by simp [results, Try.results33, go_sem, v0, v1, v2]; try rfl) rfl ⟨_, rfl, st3_below G8.out.2.2.2.1 q6 HQ.out true (.slice (some ⟨g, 0, none⟩) vs.length c5) (.slice b5 ss.length d5), by
        have t := (G8.out.2.2.2.2.st3 hq6N true (.slice (some ⟨g, 0, none⟩) vs.length c5) (.slice b5 ss.length d5)).rs
        rw [HVS.out, HBU.out] at t
        rw [HZ.out, HR.out]
        unfold VS.raw
        dsimp only
        rw [List.map_set]
        rw [HVS.out]
        exact t⟩
  · rw [decide_eq_false hc] at cR
    have HC : Hid (¬ isReg ⟨r, us, ss⟩ i) := hide (by unfold isReg; dsimp only; rw [HVL.out]; exact hc)
    clear hc
    go_upto_region 2 with (go_at_call 67; refine (cR _).mono ?_; rintro e W3 ⟨rfl, hR⟩; have K := KEEP _ hR; clear KEEP cR hR x0 x1 x2)
    have x0 := K.out.1.c0
    have x1 := K.out.1.c1
    have x2 := K.out.1.c2
    have F := hide K.out.2
    clear K
    have cC2 := cC _ F.out.2.2
    go_wp2_with (go_at_call 22; refine cC2.mono ?_; rintro e wB ⟨v, rfl, hO, hB⟩; have hR := hide hO.rn; obtain ⟨a5, c5, b5, d5, es, rfl, -, -, -, -⟩ := own3_form hO; dsimp only at hR ⊢; clear hO cC2 x0 x1 x2; have F2 := hide (And.intro (F.out.1.keep hB) (And.intro (F.out.2.1.of (hB.block q6 F.out.1.lt)) (F.out.2.2.trans (hB.mono F.out.2.2.size)))); have hN := F.out.1.lt; have z0 := F2.out.1.c0; have z1 := F2.out.1.c1; have z2 := F2.out.1.c2; have y0 := F2.out.2.1.f0; have y1 := F2.out.2.1.f1; have y2 := F2.out.2.1.f2; clear F hB)
    have x := F2.out.1.put3 r (.slice a5 vs.length c5) (.slice b5 ss.length d5)
    have v0 := x.c0
    have v1 := x.c1
    have v2 := x.c2
    clear z0 z1 z2 y0 y1 y2
    exact bodyPost_ret (by simp [results, Try.results33, go_sem, v0, v1, v2]; try rfl) rfl ⟨_, rfl, st3_below F2.out.2.2 q6 HQ.out r (.slice a5 vs.length c5) (.slice b5 ss.length d5), by rw [HZ.out, branch_not HC.out]; exact (HVS.out ▸ (hR.out.st3 hN r (.slice a5 vs.length c5) (.slice b5 ss.length d5)).rs)⟩
end Go.Proofs.Ytmhicllhjiglkaa
namespace Go.Proofs.Ytmhicllhjiglkaa
open Go.RowKit
set_option maxRecDepth 100000 in
set_option maxHeartbeats 8000000 in
theorem branchr_S0 (a b : Option Addr) (c d : Nat) (r : Bool) (us : List V) (ss : List (List Int)) (i : Int) (yes : Bool) (w : World) (hv0 : RV w a (us.map V.raw)) (hs : RR w b ss) (hvc : us.length ≤ c) (hva : a = none → c = 0) (hl1 : us.length ≤ 100000) (hl2 : ss.length = us.length) (hl3 : ∀ (m : Nat) (l : List Int), ss[m]? = some l → l.length ≤ 100000) :
    Calls Try.prog 34 #[.agg #[.bool r, .slice a us.length c, .slice b ss.length d], .int .i64 i, .bool yes] w fun e w' => ∃ v, e = .returned v ∧ Below w.heap.size w w' ∧ Rs w' v (branchVS ⟨r, us, ss⟩ i yes).raw := by
  obtain ⟨z, hz⟩ : ∃ z, z = (branchVS ⟨r, us, ss⟩ i yes).raw := ⟨_, rfl⟩
  rw [← hz]
  have HZ := hide hz
  clear hz
  obtain ⟨vs, hvs⟩ : ∃ vs, vs = us.map V.raw := ⟨_, rfl⟩
  have hvl : us.length = vs.length := by rw [hvs, List.length_map]
  rw [← hvs] at hv0
  have HVS := hide hvs
  clear hvs
  have cC : ∀ w', Below w.heap.size w w' → _ := fun w' h => copyOr a b c d r vs ss w' (hv0.keep h) (hs.keep h) (by omega) hva (by omega) (by omega) hl3
  have HV := hide hv0
  have cR := fun w => regs_any r a b us.length c ss.length d w
  rw [show min us.length ss.length = us.length by omega] at cR
  rw [hvl] at cR ⊢
  have HL2 := hide hl2
  have HVL := hide hvl
  clear hv0 hs hvc hva hl3 hl2 hvl
  go_enter Try.func34, Try.ntmps34
  go_upto_region 1 with fail
  go_name_world W hW
  obtain ⟨q6, h6⟩ : ∃ z9, z9 = w.heap.size + 1 := ⟨_, rfl⟩
  rw [← h6]
  obtain ⟨q3, h3⟩ : ∃ z9, z9 = w.heap.size := ⟨_, rfl⟩
  rw [← h3]
  obtain ⟨B3, -, B6, F6, u⟩ := boxes2 w _ _ _ _ _ _ _ _ W hW
  rw [← h3] at B3
  rw [← h6] at B6 F6
  have HB := hide (And.intro B3 (And.intro B6 (And.intro F6 u)))
  have HQ : Hid (w.heap.size ≤ q6) := hide (by omega)
  clear hW h6 h3 B3 B6 F6 u
  have x0 := HB.out.1.c0
  have x1 := HB.out.1.c1
  have x2 := HB.out.1.c2
  have KEEP : ∀ W3, Below W.heap.size W W3 → Hid (Bs W3 q3 r (.slice a vs.length c) (.slice b ss.length d) ∧ Bs W3 q6 false (.slice none 0 0) (.slice none 0 0) ∧ Fs W3 q6 ∧ Below w.heap.size w W3) := fun W3 hR => hide ⟨HB.out.1.keep hR, HB.out.2.1.keep hR, HB.out.2.2.1.of (hR.block _ HB.out.2.1.lt), HB.out.2.2.2.trans (hR.mono HB.out.2.2.2.size)⟩
  clear HB
  by_cases hc : r = true ∧ 0 ≤ i ∧ i < (vs.length : Int)
  · obtain ⟨rfl, hc0⟩ := hc
    obtain ⟨k, rfl⟩ : ∃ k : Nat, i = k := ⟨i.toNat, by omega⟩
    have hk : k < vs.length := by omega
    have hk2 : (k : Int) < vs.length := by omega
    have hku : k < us.length := by have := HVL.out; omega
    obtain ⟨hc1, -⟩ := hc0
    skip
    obtain ⟨uu, hu⟩ : ∃ u, us[k]? = some u := ⟨_, List.getElem?_eq_getElem hku⟩
    have HU := hide hu
    obtain ⟨b1, o1, xr, hX, rfl, hx6⟩ := HV.out.at hk
    obtain rfl : xr = uu.raw := by rw [HVS.out, List.getElem?_map, hu] at hX; exact (Option.some.inj hX).symm
    have H6 := hide hx6
    clear hX hx6 hu
    have cB := fun w => rbranchr_V uu yes w
    obtain ⟨bu, hbu⟩ : ∃ z9, z9 = branchV uu yes := ⟨_, rfl⟩
    rw [← hbu] at cB
    have HBU := hide hbu
    clear hbu
    go_upto_region 3 with (go_at_call 51; refine (cR _).mono ?_; rintro e W3 ⟨rfl, hR⟩; have K := KEEP _ hR; clear KEEP cR hR x0 x1 x2)
    have x1 := K.out.1.c1
    have m6 := H6.out.keep K.out.2.2.2
    have m0 := m6.c0
    have m1 := m6.c1
    have m2 := m6.c2
    have m3 := m6.c3
    have m4 := m6.c4
    have m5 := m6.c5
    clear m6
    go_upto_region 4 with (go_at_call 70; refine (cB _).mono ?_; rintro e WB ⟨rfl, hB⟩; replace hB := hide hB; clear cB x1 m0 m1 m2 m3 m4 m5)
    go_name_world W4 hW4
    obtain ⟨q7, hq7⟩ : ∃ z9, z9 = WB.heap.size := ⟨_, rfl⟩
    rw [← hq7]
    have K4 : Hid (Bs W4 q3 true (.slice (some ⟨b1, o1, none⟩) vs.length c) (.slice b ss.length d) ∧ Bs W4 q6 false (.slice none 0 0) (.slice none 0 0) ∧ Fs W4 q6 ∧ Below w.heap.size w W4 ∧ B6 W4 q7 0 bu.1.raw) := by
      have u2 : Below WB.heap.size WB W4 := hW4 ▸ (Below.refl _ _).alloc (Nat.le_refl _) _
      have g := hB.out.trans (u2.mono hB.out.size)
      have n6 : B6 W4 q7 0 bu.1.raw := by rw [← hW4, hq7]; exact B6.new _ bu.1.raw _
      exact hide ⟨K.out.1.keep g, K.out.2.1.keep g, K.out.2.2.1.of (g.block _ K.out.2.1.lt), K.out.2.2.2.trans (g.mono K.out.2.2.2.size), n6⟩
    clear hW4 hq7 hB K
    obtain ⟨bv, hbv⟩ : ∃ z9, z9 = bu.2 := ⟨_, rfl⟩
    try rw [← hbv]
    cases bv with
    | false =>
      have HR := hide (branch_off HU.out (HBU.out ▸ hbv.symm) ss : branchVS ⟨true, us, ss⟩ k yes = ⟨false, [], []⟩)
      clear hbv
      have z0 := K4.out.2.1.c0
      have z1 := K4.out.2.1.c1
      have z2 := K4.out.2.1.c2
      have y0 := K4.out.2.2.1.f0
      have y1 := K4.out.2.2.1.f1
      have y2 := K4.out.2.2.1.f2
      go_wp2_with fail
      have x := K4.out.2.1.put3 false (.slice none 0 0) (.slice none 0 0)
      have v0 := x.c0
      have v1 := x.c1
      have v2 := x.c2
      clear z0 z1 z2 y0 y1 y2
      exact bodyPost_ret (by simp [results, Try.results34, go_sem, v0, v1, v2]; try rfl) rfl ⟨_, rfl, st3_below K4.out.2.2.2.1 q6 HQ.out false (.slice none 0 0) (.slice none 0 0), by rw [HZ.out, HR.out]; exact (rn_none _ 0).rs⟩
    | true =>
      have HR := hide (branch_on HU.out (HBU.out ▸ hbv.symm) ss : branchVS ⟨true, us, ss⟩ k yes = ⟨true, us.set k (branchV uu yes).1, ss⟩)
      clear hbv
      have x0 := K4.out.1.c0
      have x1 := K4.out.1.c1
      have x2 := K4.out.1.c2
      have cC2 := cC _ K4.out.2.2.2.1
      go_upto_region 7 with (go_at_call 68; refine cC2.mono ?_; rintro e wB ⟨v, rfl, hO, hB⟩; obtain ⟨a5, c5, b5, d5, es, rfl, h1, h2, h3, h4⟩ := own3_form hO; dsimp only at h1 h2 h3 ⊢; clear hO cC2 cC x0 x1 x2; replace hB := hide hB; replace h1 := hide h1; replace h2 := hide h2; replace h3 := hide h3; replace h4 := hide h4)
      go_name_world W7 hW7
      obtain ⟨k9, hk9⟩ : ∃ z9, z9 = wB.heap.size := ⟨_, rfl⟩
      rw [← hk9]
      obtain ⟨N, hN⟩ : ∃ z9, z9 = W4.heap.size := ⟨_, rfl⟩
      have L7 : Hid (Lz W7 N k9 48 ⟨true, vs, ss⟩ (.slice a5 vs.length c5) (.slice b5 ss.length d5) es) := by
        rw [← hW7, hk9, hN]
        exact hide (Lz.start (s := ⟨true, vs, ss⟩) h1.out h2.out h3.out h4.out)
      have u2 : Below wB.heap.size wB W7 := hW7 ▸ (Below.refl _ _).alloc (Nat.le_refl _) _
      have bW := hB.out.trans (u2.mono hB.out.size)
      have K7 : Hid (Bs W7 q6 false (.slice none 0 0) (.slice none 0 0) ∧ Fs W7 q6 ∧ Below w.heap.size w W7 ∧ B6 W7 q7 0 bu.1.raw ∧ q6 < N ∧ q7 < N) := hide ⟨K4.out.2.1.keep bW, K4.out.2.2.1.of (bW.block _ K4.out.2.1.lt), K4.out.2.2.2.1.trans (bW.mono K4.out.2.2.2.1.size), K4.out.2.2.2.2.keep bW, by rw [hN]; exact K4.out.2.1.lt, by rw [hN]; exact K4.out.2.2.2.2.lt⟩
      clear hW7 hk9 hN h1 h2 h3 h4 hB u2 bW K4
      obtain ⟨g, rfl, FZ⟩ := L7.out.ov.some9 (by omega)
      have FG := hide FZ
      clear FZ
      obtain ⟨bq, oq, eqq, xx6⟩ := L7.out.ov.rv k (vs[k]) (by simp [hk])
      obtain ⟨rfl, rfl⟩ : g = bq ∧ 0 = oq := by simpa using eqq
      rw [Nat.zero_add] at xx6
      have b1' := L7.out.bx.c1
      have v6 := K7.out.2.2.2.1
      have v0 := v6.c0
      have v1 := v6.c1
      have v2 := v6.c2
      have v3 := v6.c3
      have v4 := v6.c4
      have v5 := v6.c5
      have m0 := xx6.c0
      have m1 := xx6.c1
      have m2 := xx6.c2
      have m3 := xx6.c3
      have m4 := xx6.c4
      have m5 := xx6.c5
      have f0 := FG.out (k * 6)
      have f1 := FG.out (k * 6 + 1)
      have f2 := FG.out (k * 6 + 2)
      have f3 := FG.out (k * 6 + 3)
      have f4 := FG.out (k * 6 + 4)
      have f5 := FG.out (k * 6 + 5)
      clear v6 xx6 eqq
      go_upto_region 8 with fail
      go_name_world W8 hW8
      have G8 : Hid (Bs W8 k9 true (.slice (some ⟨g, 0, none⟩) vs.length c5) (.slice b5 ss.length d5) ∧ Bs W8 q6 false (.slice none 0 0) (.slice none 0 0) ∧ Fs W8 q6 ∧ Below w.heap.size w W8 ∧ Rn W8 N (.agg #[.bool true, .slice (some ⟨g, 0, none⟩) vs.length c5, .slice b5 ss.length d5]) ⟨true, vs.set k bu.1.raw, ss⟩) := by
        have f1 : ∀ k', k' ≠ g → (st6o W7 g (k * 6) (.int .i64 bu.1.raw.s) (.bool bu.1.raw.k) (.int .i64 bu.1.raw.n) (.int .i64 bu.1.raw.lo) (.int .i64 bu.1.raw.hi) (.int .i64 bu.1.raw.p)).heap[k']? = W7.heap[k']? := fun k' hk' => st6o_block _ _ _ _ _ _ _ _ _ k' hk'
        have g1 := (L7.out.ov.lt g rfl).1
        have g3 := L7.out.lv g rfl
        have g4 := K7.out.2.2.2.2.1
        have g5 := HQ.out
        have t : Bs (st6o W7 g (k * 6) (.int .i64 bu.1.raw.s) (.bool bu.1.raw.k) (.int .i64 bu.1.raw.n) (.int .i64 bu.1.raw.lo) (.int .i64 bu.1.raw.hi) (.int .i64 bu.1.raw.p)) k9 true (.slice (some ⟨g, 0, none⟩) vs.length c5) (.slice b5 ss.length d5) ∧ Bs (st6o W7 g (k * 6) (.int .i64 bu.1.raw.s) (.bool bu.1.raw.k) (.int .i64 bu.1.raw.n) (.int .i64 bu.1.raw.lo) (.int .i64 bu.1.raw.hi) (.int .i64 bu.1.raw.p)) q6 false (.slice none 0 0) (.slice none 0 0) ∧ Fs (st6o W7 g (k * 6) (.int .i64 bu.1.raw.s) (.bool bu.1.raw.k) (.int .i64 bu.1.raw.n) (.int .i64 bu.1.raw.lo) (.int .i64 bu.1.raw.hi) (.int .i64 bu.1.raw.p)) q6 ∧ Below w.heap.size w (st6o W7 g (k * 6) (.int .i64 bu.1.raw.s) (.bool bu.1.raw.k) (.int .i64 bu.1.raw.n) (.int .i64 bu.1.raw.lo) (.int .i64 bu.1.raw.hi) (.int .i64 bu.1.raw.p)) ∧ Rn (st6o W7 g (k * 6) (.int .i64 bu.1.raw.s) (.bool bu.1.raw.k) (.int .i64 bu.1.raw.n) (.int .i64 bu.1.raw.lo) (.int .i64 bu.1.raw.hi) (.int .i64 bu.1.raw.p)) N (.agg #[.bool true, .slice (some ⟨g, 0, none⟩) vs.length c5, .slice b5 ss.length d5]) ⟨true, vs.set k bu.1.raw, ss⟩ :=
          ⟨L7.out.bx.of (f1 _ (by omega)), K7.out.1.of (f1 _ (by omega)), K7.out.2.1.of (f1 _ (by omega)), st6o_below K7.out.2.2.1 g _ (by omega) _ _ _ _ _ _, L7.out.setV (s := ⟨true, vs, ss⟩) (by decide) hk bu.1.raw⟩
        unfold st6o at t
        rw [show W8 = _ from hW8.symm]
        exact hide t
      have hq6N := K7.out.2.2.2.2.1
      clear hW8 L7 K7 FG b1' v0 v1 v2 v3 v4 v5 m0 m1 m2 m3 m4 m5 f0 f1 f2 f3 f4 f5
      have z0 := G8.out.1.c0
      have z1 := G8.out.1.c1
      have z2 := G8.out.1.c2
      have x0 := G8.out.2.1.c0
      have x1 := G8.out.2.1.c1
      have x2 := G8.out.2.1.c2
      have y0 := G8.out.2.2.1.f0
      have y1 := G8.out.2.2.1.f1
      have y2 := G8.out.2.2.1.f2
      go_wp2_with fail
      have x := G8.out.2.1.put3 true (.slice (some ⟨g, 0, none⟩) vs.length c5) (.slice b5 ss.length d5)
      have v0 := x.c0
      have v1 := x.c1
      have v2 := x.c2
      clear z0 z1 z2 x0 x1 x2 y0 y1 y2
      exact bodyPost_ret (by simp [results, Try.results34, go_sem, v0, v1, v2]; try rfl) rfl ⟨_, rfl, st3_below G8.out.2.2.2.1 q6 HQ.out true (.slice (some ⟨g, 0, none⟩) vs.length c5) (.slice b5 ss.length d5), by
        have t := (G8.out.2.2.2.2.st3 hq6N true (.slice (some ⟨g, 0, none⟩) vs.length c5) (.slice b5 ss.length d5)).rs
        rw [HVS.out, HBU.out] at t
        rw [HZ.out, HR.out]
        unfold VS.raw
        dsimp only
        rw [List.map_set]
        rw [HVS.out]
        exact t⟩
  · have HC : Hid (¬ isReg ⟨r, us, ss⟩ i) := hide (by unfold isReg; dsimp only; rw [HVL.out]; exact hc)
    have way : r = false ∨ (r = true ∧ ¬ 0 ≤ i) ∨ (r = true ∧ 0 ≤ i ∧ ¬ i < (vs.length : Int)) := by
      cases r
      · exact .inl rfl
      · by_cases h0 : 0 ≤ i
        · exact .inr (.inr ⟨rfl, h0, fun h => hc ⟨rfl, h0, h⟩⟩)
        · exact .inr (.inl ⟨rfl, h0⟩)
    clear hc
    rcases way with rfl | ⟨rfl, h0⟩ | ⟨rfl, h0, h1⟩
    · clear cR
      go_upto_region 2 with fail
      have K := KEEP _ (Below.refl _ _)
      clear KEEP x0 x1 x2
      have x0 := K.out.1.c0
      have x1 := K.out.1.c1
      have x2 := K.out.1.c2
      have F := hide K.out.2
      clear K
      have cC2 := cC _ F.out.2.2
      go_wp2_with (go_at_call 68; refine cC2.mono ?_; rintro e wB ⟨v, rfl, hO, hB⟩; have hR := hide hO.rn; obtain ⟨a5, c5, b5, d5, es, rfl, -, -, -, -⟩ := own3_form hO; dsimp only at hR ⊢; clear hO cC2 x0 x1 x2; have F2 := hide (And.intro (F.out.1.keep hB) (And.intro (F.out.2.1.of (hB.block q6 F.out.1.lt)) (F.out.2.2.trans (hB.mono F.out.2.2.size)))); have hN := F.out.1.lt; have z0 := F2.out.1.c0; have z1 := F2.out.1.c1; have z2 := F2.out.1.c2; have y0 := F2.out.2.1.f0; have y1 := F2.out.2.1.f1; have y2 := F2.out.2.1.f2; clear F hB)
      have x := F2.out.1.put3 false (.slice a5 vs.length c5) (.slice b5 ss.length d5)
      have v0 := x.c0
      have v1 := x.c1
      have v2 := x.c2
      clear z0 z1 z2 y0 y1 y2
      exact bodyPost_ret (by simp [results, Try.results34, go_sem, v0, v1, v2]; try rfl) rfl ⟨_, rfl, st3_below F2.out.2.2 q6 HQ.out false (.slice a5 vs.length c5) (.slice b5 ss.length d5), by rw [HZ.out, branch_not HC.out]; exact (HVS.out ▸ (hR.out.st3 hN false (.slice a5 vs.length c5) (.slice b5 ss.length d5)).rs)⟩
    · clear cR
      go_upto_region 2 with fail
      have K := KEEP _ (Below.refl _ _)
      clear KEEP x0 x1 x2
      have x0 := K.out.1.c0
      have x1 := K.out.1.c1
      have x2 := K.out.1.c2
      have F := hide K.out.2
      clear K
      have cC2 := cC _ F.out.2.2
      go_wp2_with (go_at_call 68; refine cC2.mono ?_; rintro e wB ⟨v, rfl, hO, hB⟩; have hR := hide hO.rn; obtain ⟨a5, c5, b5, d5, es, rfl, -, -, -, -⟩ := own3_form hO; dsimp only at hR ⊢; clear hO cC2 x0 x1 x2; have F2 := hide (And.intro (F.out.1.keep hB) (And.intro (F.out.2.1.of (hB.block q6 F.out.1.lt)) (F.out.2.2.trans (hB.mono F.out.2.2.size)))); have hN := F.out.1.lt; have z0 := F2.out.1.c0; have z1 := F2.out.1.c1; have z2 := F2.out.1.c2; have y0 := F2.out.2.1.f0; have y1 := F2.out.2.1.f1; have y2 := F2.out.2.1.f2; clear F hB)
      have x := F2.out.1.put3 true (.slice a5 vs.length c5) (.slice b5 ss.length d5)
      have v0 := x.c0
      have v1 := x.c1
      have v2 := x.c2
      clear z0 z1 z2 y0 y1 y2
      exact bodyPost_ret (by simp [results, Try.results34, go_sem, v0, v1, v2]; try rfl) rfl ⟨_, rfl, st3_below F2.out.2.2 q6 HQ.out true (.slice a5 vs.length c5) (.slice b5 ss.length d5), by rw [HZ.out, branch_not HC.out]; exact (HVS.out ▸ (hR.out.st3 hN true (.slice a5 vs.length c5) (.slice b5 ss.length d5)).rs)⟩
    · go_upto_region 2 with (go_at_call 51; refine (cR _).mono ?_; rintro e W3 ⟨rfl, hR⟩; have K := KEEP _ hR; clear KEEP cR hR x0 x1 x2)
      have x0 := K.out.1.c0
      have x1 := K.out.1.c1
      have x2 := K.out.1.c2
      have F := hide K.out.2
      clear K
      have cC2 := cC _ F.out.2.2
      go_wp2_with (go_at_call 68; refine cC2.mono ?_; rintro e wB ⟨v, rfl, hO, hB⟩; have hR := hide hO.rn; obtain ⟨a5, c5, b5, d5, es, rfl, -, -, -, -⟩ := own3_form hO; dsimp only at hR ⊢; clear hO cC2 x0 x1 x2; have F2 := hide (And.intro (F.out.1.keep hB) (And.intro (F.out.2.1.of (hB.block q6 F.out.1.lt)) (F.out.2.2.trans (hB.mono F.out.2.2.size)))); have hN := F.out.1.lt; have z0 := F2.out.1.c0; have z1 := F2.out.1.c1; have z2 := F2.out.1.c2; have y0 := F2.out.2.1.f0; have y1 := F2.out.2.1.f1; have y2 := F2.out.2.1.f2; clear F hB)
      have x := F2.out.1.put3 true (.slice a5 vs.length c5) (.slice b5 ss.length d5)
      have v0 := x.c0
      have v1 := x.c1
      have v2 := x.c2
      clear z0 z1 z2 y0 y1 y2
      exact bodyPost_ret (by simp [results, Try.results34, go_sem, v0, v1, v2]; try rfl) rfl ⟨_, rfl, st3_below F2.out.2.2 q6 HQ.out true (.slice a5 vs.length c5) (.slice b5 ss.length d5), by rw [HZ.out, branch_not HC.out]; exact (HVS.out ▸ (hR.out.st3 hN true (.slice a5 vs.length c5) (.slice b5 ss.length d5)).rs)⟩
end Go.Proofs.Ytmhicllhjiglkaa
namespace Go.Proofs.Ytmhicllhjiglkaa
open Go.RowKit
/-- the first k by f -/
def upto {α : Type} (f : α → α) (k : Nat) (l : List α) : List α := (l.take k).map f ++ l.drop k
theorem upto_zero {α : Type} (f : α → α) (l : List α) : upto f 0 l = l := by simp [upto]
theorem upto_all {α : Type} (f : α → α) (l : List α) : upto f l.length l = l.map f := by simp [upto]
theorem upto_len {α : Type} (f : α → α) (k : Nat) (l : List α) : (upto f k l).length = l.length := by
  unfold upto
  rw [List.length_append, List.length_map, List.length_take, List.length_drop]
  omega
theorem upto_at {α : Type} (f : α → α) {k : Nat} {l : List α} {x : α} (h : l[k]? = some x) : (upto f k l)[k]? = some x := by
  have hk : k < l.length := (List.getElem?_eq_some_iff.1 h).1
  unfold upto
  rw [List.getElem?_append_right (by simp; omega), List.length_map, List.length_take, List.getElem?_drop]
  rw [show k + (k - min k l.length) = k by omega]
  exact h
theorem upto_set {α : Type} (f : α → α) {k : Nat} {l : List α} {x : α} (h : l[k]? = some x) : (upto f k l).set k (f x) = upto f (k + 1) l := by
  have hk : k < l.length := (List.getElem?_eq_some_iff.1 h).1
  obtain ⟨_, e⟩ := List.getElem?_eq_some_iff.1 h
  have hl : ((l.take k).map f).length = k := by simp; omega
  unfold upto
  rw [List.set_append_right _ _ (by omega), hl, Nat.sub_self, List.drop_eq_getElem_cons hk, e, List.set_cons_zero, List.take_add_one, h, List.map_append]
  simp
theorem set_same {α : Type} {l : List α} {k : Nat} {x : α} (h : l[k]? = some x) : l.set k x = l := by
  obtain ⟨hk, e⟩ := List.getElem?_eq_some_iff.1 h
  rw [← e]; exact List.set_getElem_self hk
theorem owi_set {w : World} {B g n c i : Nat} {l : List Int} (h : OwI w B (.slice (some ⟨g, 0, none⟩) n c) l) (y : Int) : OwI (w.setCell ⟨g, i, none⟩ (.int .i64 y)) B (.slice (some ⟨g, 0, none⟩) n c) (l.set i y) := by
  unfold OwI at *
  refine ⟨by have := h.1; simp [I64] at this ⊢, ?_⟩
  rcases h.2 with ⟨e, _⟩ | ⟨g2, cap, cur, e, h1, h2, h3, h4, h5, h6⟩
  · cases e
  · simp only [Value.slice.injEq, Option.some.injEq, Addr.mk.injEq] at e
    obtain ⟨⟨rfl, -, -⟩, e2, rfl⟩ := e
    refine .inr ⟨g, c, cur.setIfInBounds i (.int .i64 y), by rw [List.length_set, e2], h1, by simp [World.setCell, Array.getElem?_modify, h2], by rw [List.length_set]; exact h3, h4, by simpa using h5, ?_⟩
    rw [Array.toList_setIfInBounds, List.take_set, List.length_set, h6]
    simp [I64, List.map_set]
theorem owi_some {w : World} {B n c : Nat} {a : Option Addr} {l : List Int} (h : OwI w B (.slice a n c) l) (hn : 0 < l.length) : ∃ g, a = some ⟨g, 0, none⟩ ∧ ∀ j, w.frozen? ⟨g, j, none⟩ = false := by
  rcases h.2 with ⟨e, h2⟩ | ⟨g, cap, cur, e, _, hg, _⟩
  · omega
  · simp only [Value.slice.injEq] at e
    refine ⟨g, e.1, fun j => ?_⟩
    simp [World.frozen?, hg]
theorem Dis.ne {es : List Value} (h : Dis es) {m k : Nat} {a b : Value} (ha : es[m]? = some a) (hb : es[k]? = some b) (hmk : m ≠ k) : ∀ j, a.ownBlock = some j → b.ownBlock ≠ some j := by
  obtain ⟨hm, rfl⟩ := List.getElem?_eq_some_iff.1 ha
  obtain ⟨hk, rfl⟩ := List.getElem?_eq_some_iff.1 hb
  unfold Dis at h
  rw [List.pairwise_iff_getElem] at h
  rcases Nat.lt_or_gt_of_ne hmk with t | t
  · exact h m k hm hk t
  · intro j h1 h2
    exact h k m hk hm t j h2 h1
/-- a number of a row in place -/
theorem Lz.poke {w : World} {N q T g n c m i : Nat} {s : S} {va sa : Value} {es : List Value} {l : List Int} (h : Lz w N q T s va sa es) (hT : T ≠ 3) (hm : s.ss[m]? = some l) (he : es[m]? = some (.slice (some ⟨g, 0, none⟩) n c)) (y : Int) : Lz (w.setCell ⟨g, i, none⟩ (.int .i64 y)) N q T ⟨s.r, s.vs, s.ss.set m (l.set i y)⟩ va sa es := by
  have fr : ∀ k', k' ≠ g → (w.setCell ⟨g, i, none⟩ (.int .i64 y)).heap[k']? = w.heap[k']? := fun k' hk' => set_block w g i _ k' hk'
  obtain ⟨e0, k1, k2⟩ := h.inn.2 m l hm
  rw [he] at k1
  obtain rfl := Option.some.inj k1
  have gq : g < q := h.li _ (List.mem_of_getElem? he) g rfl
  have hml : m < s.ss.length := (List.getElem?_eq_some_iff.1 hm).1
  refine ⟨h.bx.of (fr q (by omega)), h.fz.of (fr q (by omega)), h.ov.of (fun k hk => fr k (fun e => own_ne h.ov k2 hT k hk (by rw [e]; rfl))), h.os.of (fun k hk => fr k (fun e => own_ne h.os k2 (by decide) k hk (by rw [e]; rfl))), ⟨by rw [List.length_set]; exact h.inn.1, fun j l2 hj => ?_⟩, h.dis, h.lv, h.ls, h.li⟩
  by_cases e : j = m
  · subst e
    dsimp only at hj
    rw [List.getElem?_set_self hml] at hj
    obtain rfl := Option.some.inj hj
    exact ⟨_, he, owi_set k2 y⟩
  · dsimp only at hj
    rw [List.getElem?_set_ne (fun t => e t.symm)] at hj
    obtain ⟨e2, h1, h2⟩ := h.inn.2 j l2 hj
    exact ⟨e2, h1, h2.of (fun k hk => fr k (fun t => h.dis.ne h1 he e k hk (by rw [t]; rfl)))⟩
end Go.Proofs.Ytmhicllhjiglkaa
namespace Go.Proofs.Ytmhicllhjiglkaa
open Go.RowKit
structure Gs (w0 w : World) (N k9 q4 : Nat) (T : TypeId) (r : Bool) (vs : List R) (ss : List (List Int)) (va sa : Value) (es : List Value) : Prop where
  lz : Lz w N k9 T ⟨r, vs, ss⟩ va sa es
  b4 : Bs w q4 false (.slice none 0 0) (.slice none 0 0)
  f4 : Fs w q4
  bel : Below w0.heap.size w0 w
  q4N : q4 < N
  n4 : w0.heap.size ≤ q4
theorem Gs.keep {w0 w w' : World} {N k9 q4 : Nat} {T : TypeId} {r : Bool} {vs : List R} {ss : List (List Int)} {va sa : Value} {es : List Value} (h : Gs w0 w N k9 q4 T r vs ss va sa es) (hb : Below w.heap.size w w') : Gs w0 w' N k9 q4 T r vs ss va sa es :=
  ⟨h.lz.of hb, h.b4.keep hb, h.f4.of (hb.block _ h.b4.lt), h.bel.trans (hb.mono h.bel.size), h.q4N, h.n4⟩
theorem Gs.poke {w0 w : World} {N k9 q4 : Nat} {T : TypeId} {r : Bool} {vs : List R} {ss : List (List Int)} {va sa : Value} {es : List Value} (h : Gs w0 w N k9 q4 T r vs ss va sa es) (hT : T ≠ 3) {m i g n c : Nat} {l : List Int} (hm : ss[m]? = some l) (he : es[m]? = some (.slice (some ⟨g, 0, none⟩) n c)) (y : Int) : Gs w0 (w.setCell ⟨g, i, none⟩ (.int .i64 y)) N k9 q4 T r vs (ss.set m (l.set i y)) va sa es := by
  obtain ⟨e0, k1, k2⟩ := h.lz.inn.2 m l hm
  rw [he] at k1
  obtain rfl := Option.some.inj k1
  have gN := (k2.lt g rfl).1
  have h4 := h.q4N
  have h5 := h.n4
  exact ⟨h.lz.poke hT hm he y, h.b4.of (set_block w g i _ q4 (by omega)), h.f4.of (set_block w g i _ q4 (by omega)), h.bel.setCell (p := ⟨g, i, none⟩) (by show w0.heap.size ≤ g; omega) _, h4, h5⟩
/-- a row of the State, as it stands -/
theorem Gs.row {w0 w : World} {N k9 q4 : Nat} {T : TypeId} {r : Bool} {vs : List R} {ss : List (List Int)} {va sa : Value} {es : List Value} (h : Gs w0 w N k9 q4 T r vs ss va sa es) {m : Nat} {l : List Int} (hm : ss[m]? = some l) {gs n d : Nat} (hsa : sa = .slice (some ⟨gs, 0, none⟩) n d) : ∃ a c, es[m]? = some (.slice a l.length c) ∧ w.cell? ⟨gs, m, none⟩ = some (.slice a l.length c) := by
  obtain ⟨e, k1, k2⟩ := h.lz.inn.2 m l hm
  obtain ⟨a, c, rfl, -⟩ := k2.rl
  subst hsa
  obtain ⟨b, o, eq, k3⟩ := h.lz.os.cell k1
  obtain ⟨rfl, rfl⟩ : gs = b ∧ 0 = o := by simpa using eq
  rw [Nat.zero_add] at k3
  exact ⟨a, c, k1, k3⟩
theorem Gs.cellr {w0 w : World} {N k9 q4 : Nat} {T : TypeId} {r : Bool} {vs : List R} {ss : List (List Int)} {va sa : Value} {es : List Value} (h : Gs w0 w N k9 q4 T r vs ss va sa es) {m : Nat} {e : Value} (he : es[m]? = some e) {gs n d : Nat} (hsa : sa = .slice (some ⟨gs, 0, none⟩) n d) : w.cell? ⟨gs, m, none⟩ = some e := by
  subst hsa
  obtain ⟨b, o, eq, k3⟩ := h.lz.os.cell he
  obtain ⟨rfl, rfl⟩ : gs = b ∧ 0 = o := by simpa using eq
  rw [Nat.zero_add] at k3
  exact k3
theorem Gs.elt {w0 w : World} {N k9 q4 : Nat} {T : TypeId} {r : Bool} {vs : List R} {ss : List (List Int)} {va sa : Value} {es : List Value} (h : Gs w0 w N k9 q4 T r vs ss va sa es) {m i : Nat} {l : List Int} {x : Int} (hm : ss[m]? = some l) (hi : l[i]? = some x) {a : Option Addr} {n c : Nat} (he : es[m]? = some (.slice a n c)) : ∃ g, a = some ⟨g, 0, none⟩ ∧ w.cell? ⟨g, i, none⟩ = some (.int .i64 x) ∧ w.frozen? ⟨g, i, none⟩ = false := by
  obtain ⟨e0, k1, k2⟩ := h.lz.inn.2 m l hm
  rw [he] at k1
  obtain rfl := Option.some.inj k1
  obtain ⟨a', c', e, h1, -⟩ := k2.rl
  simp only [Value.slice.injEq] at e
  obtain ⟨rfl, -, -⟩ := e
  obtain ⟨g, rfl, hf⟩ := owi_some k2 (by have := (List.getElem?_eq_some_iff.1 hi).1; omega)
  obtain ⟨b, o, eq, h2⟩ := h1 i x hi
  obtain ⟨rfl, rfl⟩ : g = b ∧ 0 = o := by simpa using eq
  rw [Nat.zero_add] at h2
  exact ⟨g, rfl, h2, hf i⟩
set_option maxRecDepth 100000 in
set_option maxHeartbeats 8000000 in
theorem shift_S0 (a b : Option Addr) (c d : Nat) (r : Bool) (vs : List R) (ss : List (List Int)) (n : Int) (w : World) (hv : RV w a vs) (hs : RR w b ss) (hvc : vs.length ≤ c) (hva : a = none → c = 0) (hl1 : vs.length ≤ 100000) (hl2 : ss.length ≤ 100000) (hl3 : ∀ (m : Nat) (l : List Int), ss[m]? = some l → l.length ≤ 100000) (hn0 : 0 ≤ n) (hn1 : n ≤ 4000) (hb : ∀ l ∈ ss, ∀ y ∈ l, (0 : Int) ≤ y ∧ y < 5000) :
    Calls Try.prog 31 #[.agg #[.bool r, .slice a vs.length c, .slice b ss.length d], .int .i64 n] w fun e w' => ∃ v, e = .returned v ∧ Below w.heap.size w w' ∧ Rs w' v ⟨r, vs, ss.map (fun l => l.map (fun y => y + n))⟩ := by
  have cC : ∀ w', Below w.heap.size w w' → _ := fun w' h => copyO a b c d r vs ss w' (hv.keep h) (hs.keep h) hvc hva hl1 hl2 hl3
  have HB := hide hb
  have HL3 := hide hl3
  obtain ⟨sh, hsh⟩ : ∃ sh, sh = (fun (l : List Int) => l.map (fun y => y + n)) := ⟨_, rfl⟩
  rw [← hsh]
  have HSH := hide hsh
  clear hv hs hvc hva hl3 hb hsh
  have i2 : (ss.length : Int) ≤ 100000 := by omega
  go_enter Try.func31, Try.ntmps31
  go_upto_region 1 with fail
  go_name_world W hW
  obtain ⟨q4, h4⟩ : ∃ z9, z9 = w.heap.size + 1 := ⟨_, rfl⟩
  rw [← h4]
  obtain ⟨q2, h2⟩ : ∃ z9, z9 = w.heap.size := ⟨_, rfl⟩
  rw [← h2]
  obtain ⟨B2, -, B4, F4, u⟩ := boxes2 w _ _ _ _ _ _ _ _ W hW
  rw [← h2] at B2
  rw [← h4] at B4 F4
  have HB4 := hide (And.intro B4 (And.intro F4 u))
  have HQ : Hid (w.heap.size ≤ q4) := hide (by omega)
  have x0 := B2.c0
  have x1 := B2.c1
  have x2 := B2.c2
  clear hW h4 h2 B2 B4 F4 u
  go_upto_region 2 with (go_at_call 22; refine (cC _ HB4.out.2.2).mono ?_; rintro e wB ⟨v, rfl, hO, hB⟩; obtain ⟨a5, c5, b5, d5, es, rfl, h1, h2, h3, h4⟩ := own3_form hO; dsimp only at h1 h2 h3 ⊢; clear hO cC x0 x1 x2; replace hB := hide hB; replace h1 := hide h1; replace h2 := hide h2; replace h3 := hide h3; replace h4 := hide h4)
  go_name_world W2 hW2
  obtain ⟨k9, hk9⟩ : ∃ z9, z9 = wB.heap.size := ⟨_, rfl⟩
  rw [← hk9]
  obtain ⟨N, hN⟩ : ∃ z9, z9 = W.heap.size := ⟨_, rfl⟩
  have G0 : Hid (Gs w W2 N k9 q4 53 r vs ss (.slice a5 vs.length c5) (.slice b5 ss.length d5) es) := by
    have u2 : Below wB.heap.size wB W2 := hW2 ▸ (Below.refl _ _).alloc (Nat.le_refl _) _
    have bW := hB.out.trans (u2.mono hB.out.size)
    have t : Lz W2 N k9 53 ⟨r, vs, ss⟩ (.slice a5 vs.length c5) (.slice b5 ss.length d5) es := by
      rw [← hW2, hk9, hN]
      exact Lz.start (s := ⟨r, vs, ss⟩) h1.out h2.out h3.out h4.out
    exact hide ⟨t, HB4.out.1.keep bW, HB4.out.2.1.of (bW.block _ HB4.out.1.lt), HB4.out.2.2.trans (bW.mono HB4.out.2.2.size), by rw [hN]; exact HB4.out.1.lt, HQ.out⟩
  clear hW2 hk9 hN h1 h2 h3 h4 hB HB4
  have SB : Hid (0 < ss.length → ∃ gs, Value.slice b5 ss.length d5 = .slice (some ⟨gs, 0, none⟩) ss.length d5) := hide (fun h => by
    obtain ⟨gs, e, -⟩ := G0.out.lz.os.some9 h
    exact ⟨gs, by rw [e]⟩)
  have e2 := G0.out.lz.bx.c2
  go_upto_region 3 with fail
  clear e2
  go_loopw [14] (fun s14 wr => ∃ k : Nat, s14 = .int .i64 k ∧ k ≤ ss.length ∧ Hid (Gs w wr N k9 q4 53 r vs (upto sh k ss) (.slice a5 vs.length c5) (.slice b5 ss.length d5) es)) (fun s14 _ => ss.length - (intOf s14).toNat)
  case atStart => exact ⟨0, rfl, Nat.zero_le _, by rw [upto_zero]; exact G0.out⟩
  case round =>
    obtain ⟨k, rfl, hk, h5⟩ := hrel
    clear G0
    by_cases hks : k < ss.length
    · have hks2 : (k : Int) < ss.length := by omega
      obtain ⟨l, hl⟩ : ∃ l, ss[k]? = some l := ⟨_, List.getElem?_eq_getElem hks⟩
      have hlm := List.mem_of_getElem? hl
      have hll := HL3.out k l hl
      have il : (l.length : Int) ≤ 100000 := by omega
      have HBl := hide (HB.out l hlm)
      have HLk := hide hl
      obtain ⟨gs, hgs⟩ := SB.out (by omega)
      simp only [Value.slice.injEq, and_true] at hgs
      subst hgs
      obtain ⟨ae, ce, hes, hcell⟩ := h5.out.row (upto_at sh HLk.out) rfl
      have HES := hide hes
      clear hl hlm hes
      go_upto_region 6 with fail
      clear hcell
      have h6 : Hid (Gs w wr N k9 q4 53 r vs ((upto sh k ss).set k (upto (fun y => y + n) 0 l)) (.slice a5 vs.length c5) (.slice (some ⟨gs, 0, none⟩) ss.length d5) es) := by
        rw [upto_zero, set_same (upto_at sh HLk.out)]
        exact h5
      clear h5
      go_loopw [20] (fun s20 wq => ∃ i : Nat, s20 = .int .i64 i ∧ i ≤ l.length ∧ Hid (Gs w wq N k9 q4 53 r vs ((upto sh k ss).set k (upto (fun y => y + n) i l)) (.slice a5 vs.length c5) (.slice (some ⟨gs, 0, none⟩) ss.length d5) es)) (fun s20 _ => l.length - (intOf s20).toNat)
      case atStart => exact ⟨0, rfl, Nat.zero_le _, h6.out⟩
      case round =>
        obtain ⟨i, rfl, hi, h7⟩ := hrel
        clear h6
        by_cases hil : i < l.length
        · have hil2 : (i : Int) < l.length := by omega
          obtain ⟨x, hx⟩ : ∃ x, l[i]? = some x := ⟨_, List.getElem?_eq_getElem hil⟩
          have hx5 := HBl.out x (List.mem_of_getElem? hx)
          have hset : ((upto sh k ss).set k (upto (fun y => y + n) i l))[k]? = some (upto (fun y => y + n) i l) := List.getElem?_set_self (by rw [upto_len]; exact hks)
          obtain ⟨g, rfl, hc, hf⟩ := h7.out.elt hset (upto_at (fun y => y + n) hx) HES.out
          have hw : wrap64 (x + n) = x + n := by unfold wrap64; omega
          have h8 := hide (h7.out.poke (by decide) (i := i) hset HES.out (x + n))
          have HE : Hid (((upto sh k ss).set k (upto (fun y => y + n) i l)).set k ((upto (fun y => y + n) i l).set i (x + n)) = (upto sh k ss).set k (upto (fun y => y + n) (i + 1) l)) := hide (by rw [List.set_set, upto_set (fun y => y + n) hx])
          clear hset hx hx5 h7
          go_wp2_with fail
          exact ⟨⟨i + 1, by simp, by omega, HE.out ▸ h8.out⟩, by simp [intOf]; omega⟩
        · have hie : i = l.length := by omega
          subst hie
          have h8 : Hid (Gs w wr N k9 q4 53 r vs (upto sh (k + 1) ss) (.slice a5 vs.length c5) (.slice (some ⟨gs, 0, none⟩) ss.length d5) es) := by
            rw [← upto_set sh HLk.out]
            have t := h7.out
            rw [upto_all] at t
            rw [show sh l = l.map (fun y => y + n) from by rw [HSH.out]]
            exact hide t
          clear h7
          go_wp2_with fail
          exact ⟨⟨k + 1, by simp, by omega, h8.out⟩, by simp [intOf]; omega⟩
    · have hke : k = ss.length := by omega
      subst hke
      rw [upto_all] at h5
      go_upto_region 11 with fail
      have G := h5
      have e0 := G.out.lz.bx.c0
      have e1 := G.out.lz.bx.c1
      have e2 := G.out.lz.bx.c2
      have x0 := G.out.b4.c0
      have x1 := G.out.b4.c1
      have x2 := G.out.b4.c2
      have y0 := G.out.f4.f0
      have y1 := G.out.f4.f1
      have y2 := G.out.f4.f2
      clear h5
      go_wp2_with fail
      have x := G.out.b4.put3 r (.slice a5 vs.length c5) (.slice b5 ss.length d5)
      have v0 := x.c0
      have v1 := x.c1
      have v2 := x.c2
      clear e0 e1 e2 x0 x1 x2 y0 y1 y2
      exact bodyPost_ret (by simp [results, Try.results31, go_sem, v0, v1, v2]; try rfl) rfl ⟨_, rfl, st3_below G.out.bel q4 HQ.out r (.slice a5 vs.length c5) (.slice b5 ss.length d5), (G.out.lz.rn.st3 G.out.q4N r (.slice a5 vs.length c5) (.slice b5 ss.length d5)).rs⟩
end Go.Proofs.Ytmhicllhjiglkaa
namespace Go.Proofs.Ytmhicllhjiglkaa
open Go.RowKit
set_option maxRecDepth 100000 in
set_option maxHeartbeats 8000000 in
theorem shiftr_S0 (a b : Option Addr) (c d : Nat) (r : Bool) (vs : List R) (ss : List (List Int)) (n : Int) (w : World) (hv : RV w a vs) (hs : RR w b ss) (hvc : vs.length ≤ c) (hva : a = none → c = 0) (hl1 : vs.length ≤ 100000) (hl2 : ss.length ≤ 100000) (hl3 : ∀ (m : Nat) (l : List Int), ss[m]? = some l → l.length ≤ 100000) (hn0 : 0 ≤ n) (hn1 : n ≤ 4000) (hb : ∀ l ∈ ss, ∀ y ∈ l, (0 : Int) ≤ y ∧ y < 5000) :
    Calls Try.prog 32 #[.agg #[.bool r, .slice a vs.length c, .slice b ss.length d], .int .i64 n] w fun e w' => ∃ v, e = .returned v ∧ Below w.heap.size w w' ∧ Rs w' v ⟨r, vs, ss.map (fun l => l.map (fun y => y + n))⟩ := by
  have cC : ∀ w', Below w.heap.size w w' → _ := fun w' h => copyOr a b c d r vs ss w' (hv.keep h) (hs.keep h) hvc hva hl1 hl2 hl3
  have HB := hide hb
  have HL3 := hide hl3
  obtain ⟨sh, hsh⟩ : ∃ sh, sh = (fun (l : List Int) => l.map (fun y => y + n)) := ⟨_, rfl⟩
  rw [← hsh]
  have HSH := hide hsh
  clear hv hs hvc hva hl3 hb hsh
  have i2 : (ss.length : Int) ≤ 100000 := by omega
  go_enter Try.func32, Try.ntmps32
  go_upto_region 1 with fail
  go_name_world W hW
  obtain ⟨q4, h4⟩ : ∃ z9, z9 = w.heap.size + 1 := ⟨_, rfl⟩
  rw [← h4]
  obtain ⟨q2, h2⟩ : ∃ z9, z9 = w.heap.size := ⟨_, rfl⟩
  rw [← h2]
  obtain ⟨B2, -, B4, F4, u⟩ := boxes2 w _ _ _ _ _ _ _ _ W hW
  rw [← h2] at B2
  rw [← h4] at B4 F4
  have HB4 := hide (And.intro B4 (And.intro F4 u))
  have HQ : Hid (w.heap.size ≤ q4) := hide (by omega)
  have x0 := B2.c0
  have x1 := B2.c1
  have x2 := B2.c2
  clear hW h4 h2 B2 B4 F4 u
  go_upto_region 2 with (go_at_call 68; refine (cC _ HB4.out.2.2).mono ?_; rintro e wB ⟨v, rfl, hO, hB⟩; obtain ⟨a5, c5, b5, d5, es, rfl, h1, h2, h3, h4⟩ := own3_form hO; dsimp only at h1 h2 h3 ⊢; clear hO cC x0 x1 x2; replace hB := hide hB; replace h1 := hide h1; replace h2 := hide h2; replace h3 := hide h3; replace h4 := hide h4)
  go_name_world W2 hW2
  obtain ⟨k9, hk9⟩ : ∃ z9, z9 = wB.heap.size := ⟨_, rfl⟩
  rw [← hk9]
  obtain ⟨N, hN⟩ : ∃ z9, z9 = W.heap.size := ⟨_, rfl⟩
  have G0 : Hid (Gs w W2 N k9 q4 48 r vs ss (.slice a5 vs.length c5) (.slice b5 ss.length d5) es) := by
    have u2 : Below wB.heap.size wB W2 := hW2 ▸ (Below.refl _ _).alloc (Nat.le_refl _) _
    have bW := hB.out.trans (u2.mono hB.out.size)
    have t : Lz W2 N k9 48 ⟨r, vs, ss⟩ (.slice a5 vs.length c5) (.slice b5 ss.length d5) es := by
      rw [← hW2, hk9, hN]
      exact Lz.start (s := ⟨r, vs, ss⟩) h1.out h2.out h3.out h4.out
    exact hide ⟨t, HB4.out.1.keep bW, HB4.out.2.1.of (bW.block _ HB4.out.1.lt), HB4.out.2.2.trans (bW.mono HB4.out.2.2.size), by rw [hN]; exact HB4.out.1.lt, HQ.out⟩
  clear hW2 hk9 hN h1 h2 h3 h4 hB HB4
  have SB : Hid (0 < ss.length → ∃ gs, Value.slice b5 ss.length d5 = .slice (some ⟨gs, 0, none⟩) ss.length d5) := hide (fun h => by
    obtain ⟨gs, e, -⟩ := G0.out.lz.os.some9 h
    exact ⟨gs, by rw [e]⟩)
  go_wp2_with fail
  go_loopw [6] (fun s6 wr => ∃ k : Nat, s6 = .int .i64 k ∧ k ≤ ss.length ∧ Hid (Gs w wr N k9 q4 48 r vs (upto sh k ss) (.slice a5 vs.length c5) (.slice b5 ss.length d5) es)) (fun s6 _ => ss.length - (intOf s6).toNat)
  case atStart => exact ⟨0, rfl, Nat.zero_le _, by rw [upto_zero]; exact G0.out⟩
  case round =>
    obtain ⟨k, rfl, hk, h5⟩ := hrel
    clear G0
    have e2 := h5.out.lz.bx.c2
    by_cases hks : k < ss.length
    · have hks2 : (k : Int) < ss.length := by omega
      obtain ⟨l, hl⟩ : ∃ l, ss[k]? = some l := ⟨_, List.getElem?_eq_getElem hks⟩
      have hlm := List.mem_of_getElem? hl
      have hll := HL3.out k l hl
      have il : (l.length : Int) ≤ 100000 := by omega
      have HBl := hide (HB.out l hlm)
      have HLk := hide hl
      obtain ⟨gs, hgs⟩ := SB.out (by omega)
      simp only [Value.slice.injEq, and_true] at hgs
      subst hgs
      obtain ⟨ae, ce, hes, hcell⟩ := h5.out.row (upto_at sh HLk.out) rfl
      have HES := hide hes
      clear hl hlm hes hcell
      go_upto_block 2 with fail
      clear e2
      have h6 : Hid (Gs w wr N k9 q4 48 r vs ((upto sh k ss).set k (upto (fun y => y + n) 0 l)) (.slice a5 vs.length c5) (.slice (some ⟨gs, 0, none⟩) ss.length d5) es) := by
        rw [upto_zero, set_same (upto_at sh HLk.out)]
        exact h5
      clear h5
      go_wp2_with fail
      go_loopw [7] (fun s7 wq => ∃ i : Nat, s7 = .int .i64 i ∧ i ≤ l.length ∧ Hid (Gs w wq N k9 q4 48 r vs ((upto sh k ss).set k (upto (fun y => y + n) i l)) (.slice a5 vs.length c5) (.slice (some ⟨gs, 0, none⟩) ss.length d5) es)) (fun s7 _ => l.length - (intOf s7).toNat)
      case atStart => exact ⟨0, rfl, Nat.zero_le _, h6.out⟩
      case round =>
        obtain ⟨i, rfl, hi, h7⟩ := hrel
        clear h6
        have e2 := h7.out.lz.bx.c2
        have e3 := h7.out.cellr HES.out rfl
        by_cases hil : i < l.length
        · have hil2 : (i : Int) < l.length := by omega
          obtain ⟨x, hx⟩ : ∃ x, l[i]? = some x := ⟨_, List.getElem?_eq_getElem hil⟩
          have hx5 := HBl.out x (List.mem_of_getElem? hx)
          have hset : ((upto sh k ss).set k (upto (fun y => y + n) i l))[k]? = some (upto (fun y => y + n) i l) := List.getElem?_set_self (by rw [upto_len]; exact hks)
          obtain ⟨g, rfl, hc, hf⟩ := h7.out.elt hset (upto_at (fun y => y + n) hx) HES.out
          have HW : Hid (wrap64 (x + n) = x + n) := hide (by unfold wrap64; omega)
          have HX : Hid (IntKind.i64.wrap (x + n) = x + n) := hide (by rw [IntKind.wrap_i64]; omega)
          have HE : Hid (((upto sh k ss).set k (upto (fun y => y + n) i l)).set k ((upto (fun y => y + n) i l).set i (x + n)) = (upto sh k ss).set k (upto (fun y => y + n) (i + 1) l)) := hide (by rw [List.set_set, upto_set (fun y => y + n) hx])
          have HSET := hide hset
          clear hset hx hx5
          go_upto_region 8 with fail
          go_name_world W8 hW8
          rw [hW8] at h7 hc hf
          clear hW8 e2 e3
          refine wp_region_held_drew (S := fun w' => w'.cell? ⟨k9, 2, none⟩ = some (.slice (some ⟨gs, 0, none⟩) ss.length d5) ∧ w'.cell? ⟨gs, k, none⟩ = some (.slice (some ⟨g, 0, none⟩) l.length ce)) (by kernel_rfl) ⟨by simpa using h7.out.lz.bx.c2, by simpa using h7.out.cellr HES.out rfl⟩ (fun hH0 => ?_)
          obtain ⟨w0, hw0⟩ : ∃ w0, w0 = W8.drew := ⟨_, rfl⟩
          (try rw [← hw0] at hH0)
          rw [← hw0]
          have G8 : Hid (Gs w w0 N k9 q4 48 r vs ((upto sh k ss).set k (upto (fun y => y + n) i l)) (.slice a5 vs.length c5) (.slice (some ⟨gs, 0, none⟩) ss.length d5) es) := hw0 ▸ hide (h7.out.keep (Below.refl _ _).drew)
          have C0 : Hid (w0.cell? ⟨g, i, none⟩ = some (.int .i64 x)) := hw0 ▸ hide (by simpa using hc)
          have F0 : Hid (w0.frozen? ⟨g, i, none⟩ = false) := hw0 ▸ hide (by simpa using hf)
          have h8 := hide (G8.out.poke (by decide) (i := i) HSET.out HES.out (x + n))
          clear hc hf h7
          clear hw0
          refine wpAnyH_take (i := 0) (oi := ({ dst := some 27, op := Op.fieldAddr 25 (Operand.tmp 5) 2, type := 0, pos := _, after := _, guard := _ } : Oper)) (v := ?_) rfl (by kernel_rfl) (by kernel_rfl) (by kernel_rfl) (fun _ _ _ h => h) (Or.inl ⟨by rfl, ?_⟩) (by assumption) ?_
          rotate_left
          · (intro wz hSw; (try dsimp only at hSw); go_simp; try with_reducible rfl)
          simp only [Act.put, List.setIfInBounds_toArray, List.set_cons_zero, List.set_cons_succ]
          refine wpAnyH_take (i := 1) (oi := ({ dst := some 28, op := Op.load 23 (Operand.tmp 27), type := 23, pos := _, after := _, guard := _ } : Oper)) (v := ?_) rfl (by kernel_rfl) (by kernel_rfl) (by kernel_rfl) (fun _ _ _ h => h) (Or.inl ⟨by rfl, ?_⟩) (by assumption) ?_
          rotate_left
          · (intro wz hSw; (try dsimp only at hSw); go_simp; try with_reducible rfl)
          simp only [Act.put, List.setIfInBounds_toArray, List.set_cons_zero, List.set_cons_succ]
          refine wpAnyH_take (i := 2) (oi := ({ dst := some 29, op := Op.move (Operand.tmp 6), type := 3, pos := _, after := _, guard := _ } : Oper)) (v := ?_) rfl (by kernel_rfl) (by kernel_rfl) (by kernel_rfl) (fun _ _ _ h => h) (Or.inl ⟨by rfl, ?_⟩) (by assumption) ?_
          rotate_left
          · (intro wz hSw; (try dsimp only at hSw); go_simp; try with_reducible rfl)
          simp only [Act.put, List.setIfInBounds_toArray, List.set_cons_zero, List.set_cons_succ]
          refine wpAnyH_take (i := 3) (oi := ({ dst := some 30, op := Op.indexAddr 23 (Operand.tmp 28) (Operand.tmp 29), type := 0, pos := _, after := _, guard := _ } : Oper)) (v := ?_) rfl (by kernel_rfl) (by kernel_rfl) (by kernel_rfl) (fun _ _ _ h => h) (Or.inl ⟨by rfl, ?_⟩) (by assumption) ?_
          rotate_left
          · (intro wz hSw; (try dsimp only at hSw); go_simp; try with_reducible rfl)
          simp only [Act.put, List.setIfInBounds_toArray, List.set_cons_zero, List.set_cons_succ]
          refine wpAnyH_take (i := 4) (oi := ({ dst := some 31, op := Op.load 38 (Operand.tmp 30), type := 38, pos := _, after := _, guard := _ } : Oper)) (v := ?_) rfl (by kernel_rfl) (by kernel_rfl) (by kernel_rfl) (fun _ _ _ h => h) (Or.inl ⟨by rfl, ?_⟩) (by assumption) ?_
          rotate_left
          · (intro wz hSw; (try dsimp only at hSw); go_simp; try with_reducible rfl)
          simp only [Act.put, List.setIfInBounds_toArray, List.set_cons_zero, List.set_cons_succ]
          refine wpAnyH_take (i := 5) (oi := ({ dst := some 32, op := Op.move (Operand.tmp 7), type := 3, pos := _, after := _, guard := _ } : Oper)) (v := ?_) rfl (by kernel_rfl) (by kernel_rfl) (by kernel_rfl) (fun _ _ _ h => h) (Or.inl ⟨by rfl, ?_⟩) (by assumption) ?_
          rotate_left
          · (intro wz hSw; (try dsimp only at hSw); go_simp; try with_reducible rfl)
          simp only [Act.put, List.setIfInBounds_toArray, List.set_cons_zero, List.set_cons_succ]
          refine wpAnyH_take (i := 6) (oi := ({ dst := some 33, op := Op.fieldAddr 25 (Operand.tmp 5) 2, type := 0, pos := _, after := _, guard := _ } : Oper)) (v := ?_) rfl (by kernel_rfl) (by kernel_rfl) (by kernel_rfl) (fun _ _ _ h => h) (Or.inl ⟨by rfl, ?_⟩) (by assumption) ?_
          rotate_left
          · (intro wz hSw; (try dsimp only at hSw); go_simp; try with_reducible rfl)
          simp only [Act.put, List.setIfInBounds_toArray, List.set_cons_zero, List.set_cons_succ]
          refine wpAnyH_take (i := 7) (oi := ({ dst := some 34, op := Op.load 23 (Operand.tmp 33), type := 23, pos := _, after := _, guard := _ } : Oper)) (v := ?_) rfl (by kernel_rfl) (by kernel_rfl) (by kernel_rfl) (fun _ _ _ h => h) (Or.inl ⟨by rfl, ?_⟩) (by assumption) ?_
          rotate_left
          · (intro wz hSw; (try dsimp only at hSw); go_simp; try with_reducible rfl)
          simp only [Act.put, List.setIfInBounds_toArray, List.set_cons_zero, List.set_cons_succ]
          refine wpAnyH_take (i := 8) (oi := ({ dst := some 35, op := Op.move (Operand.tmp 6), type := 3, pos := _, after := _, guard := _ } : Oper)) (v := ?_) rfl (by kernel_rfl) (by kernel_rfl) (by kernel_rfl) (fun _ _ _ h => h) (Or.inl ⟨by rfl, ?_⟩) (by assumption) ?_
          rotate_left
          · (intro wz hSw; (try dsimp only at hSw); go_simp; try with_reducible rfl)
          simp only [Act.put, List.setIfInBounds_toArray, List.set_cons_zero, List.set_cons_succ]
          refine wpAnyH_take (i := 9) (oi := ({ dst := some 36, op := Op.indexAddr 23 (Operand.tmp 34) (Operand.tmp 35), type := 0, pos := _, after := _, guard := _ } : Oper)) (v := ?_) rfl (by kernel_rfl) (by kernel_rfl) (by kernel_rfl) (fun _ _ _ h => h) (Or.inl ⟨by rfl, ?_⟩) (by assumption) ?_
          rotate_left
          · (intro wz hSw; (try dsimp only at hSw); go_simp; try with_reducible rfl)
          simp only [Act.put, List.setIfInBounds_toArray, List.set_cons_zero, List.set_cons_succ]
          refine wpAnyH_take (i := 10) (oi := ({ dst := some 37, op := Op.load 38 (Operand.tmp 36), type := 38, pos := _, after := _, guard := _ } : Oper)) (v := ?_) rfl (by kernel_rfl) (by kernel_rfl) (by kernel_rfl) (fun _ _ _ h => h) (Or.inl ⟨by rfl, ?_⟩) (by assumption) ?_
          rotate_left
          · (intro wz hSw; (try dsimp only at hSw); go_simp; try with_reducible rfl)
          simp only [Act.put, List.setIfInBounds_toArray, List.set_cons_zero, List.set_cons_succ]
          refine wpAnyH_take (i := 11) (oi := ({ dst := some 38, op := Op.move (Operand.tmp 7), type := 3, pos := _, after := _, guard := _ } : Oper)) (v := ?_) rfl (by kernel_rfl) (by kernel_rfl) (by kernel_rfl) (fun _ _ _ h => h) (Or.inl ⟨by rfl, ?_⟩) (by assumption) ?_
          rotate_left
          · (intro wz hSw; (try dsimp only at hSw); go_simp; try with_reducible rfl)
          simp only [Act.put, List.setIfInBounds_toArray, List.set_cons_zero, List.set_cons_succ]
          refine wpAnyH_take (i := 12) (oi := ({ dst := some 39, op := Op.indexAddr 38 (Operand.tmp 37) (Operand.tmp 38), type := 0, pos := _, after := _, guard := _ } : Oper)) (v := ?_) rfl (by kernel_rfl) (by kernel_rfl) (by kernel_rfl) (fun _ _ _ h => h) (Or.inl ⟨by rfl, ?_⟩) (by assumption) ?_
          rotate_left
          · (intro wz hSw; (try dsimp only at hSw); go_simp; try with_reducible rfl)
          simp only [Act.put, List.setIfInBounds_toArray, List.set_cons_zero, List.set_cons_succ]
          refine wpAnyH_take (i := 14) (oi := ({ dst := some 41, op := Op.move (Operand.tmp 1), type := 3, pos := _, after := _, guard := _ } : Oper)) (v := ?_) rfl (by kernel_rfl) (by kernel_rfl) (by kernel_rfl) (fun _ _ _ h => h) (Or.inl ⟨by rfl, ?_⟩) (by assumption) ?_
          rotate_left
          · (intro wz hSw; (try dsimp only at hSw); go_simp; try with_reducible rfl)
          simp only [Act.put, List.setIfInBounds_toArray, List.set_cons_zero, List.set_cons_succ]
          refine wpAnyH_ready (rs := [13]) (by kernel_rfl) (by simp) ?_
          refine AllReadyH.cons (o := ({ dst := some 40, op := Op.load 3 (Operand.tmp 39), type := 3, pos := _, after := _, guard := _ } : Oper)) rfl (fun K hK => ?_) AllReadyH.nil
          · have zc := C0.out
            go_simp
            refine hK.out _ _ hH0 (fun _ => ?_)
            clear hK K zc
            refine wpAnyH_take (i := 15) (oi := ({ dst := some 42, op := Op.binOp BinOp.add 3 (Operand.tmp 40) (Operand.tmp 41) 3, type := 3, pos := _, after := _, guard := _ } : Oper)) (v := ?_) rfl (by kernel_rfl) (by kernel_rfl) (by kernel_rfl) (fun _ _ _ h => h) (Or.inl ⟨by rfl, ?_⟩) (by assumption) ?_
            rotate_left
            · (intro wz hSw; (try dsimp only at hSw); go_simp; try with_reducible rfl)
            simp only [Act.put, List.setIfInBounds_toArray, List.set_cons_zero, List.set_cons_succ]
            refine wpAnyH_take (i := 16) (oi := ({ dst := some 43, op := Op.indexAddr 38 (Operand.tmp 31) (Operand.tmp 32), type := 0, pos := _, after := _, guard := _ } : Oper)) (v := ?_) rfl (by kernel_rfl) (by kernel_rfl) (by kernel_rfl) (fun _ _ _ h => h) (Or.inl ⟨by rfl, ?_⟩) (by assumption) ?_
            rotate_left
            · (intro wz hSw; (try dsimp only at hSw); go_simp; try with_reducible rfl)
            simp only [Act.put, List.setIfInBounds_toArray, List.set_cons_zero, List.set_cons_succ]
            refine wpAnyH_ready (rs := [17]) (by kernel_rfl) (by simp) ?_
            refine AllReadyH.cons (o := ({ dst := none, op := Op.store 3 (Operand.tmp 43) (Operand.tmp 42), type := 0, pos := _, after := _, guard := _ } : Oper)) rfl (fun K hK => ?_) AllReadyH.nil
            · have zc := C0.out
              have zf := F0.out
              go_simp
              refine hK.out _ _ (by rw [HX.out]; exact ⟨h8.out.lz.bx.c2, h8.out.cellr HES.out rfl⟩) (fun _ => ?_)
              clear hK K zc zf
              refine wpAnyH_done (by kernel_rfl) ?_ _
              clear C0 F0 hH0 G8
              go_wp2_with fail
              exact ⟨⟨i + 1, by simp, by omega, HE.out ▸ (by rw [HW.out]; exact h8)⟩, by simp [intOf]; omega⟩
        · have hie : i = l.length := by omega
          subst hie
          have h8 : Hid (Gs w wr N k9 q4 48 r vs (upto sh (k + 1) ss) (.slice a5 vs.length c5) (.slice (some ⟨gs, 0, none⟩) ss.length d5) es) := by
            rw [← upto_set sh HLk.out]
            have t := h7.out
            rw [upto_all] at t
            rw [show sh l = l.map (fun y => y + n) from by rw [HSH.out]]
            exact hide t
          clear h7
          go_wp2_with fail
          exact ⟨⟨k + 1, by simp, by omega, h8.out⟩, by simp [intOf]; omega⟩
    · have hke : k = ss.length := by omega
      subst hke
      rw [upto_all] at h5
      go_upto_region 9 with fail
      clear e2
      have G := h5
      have e0 := G.out.lz.bx.c0
      have e1 := G.out.lz.bx.c1
      have e2 := G.out.lz.bx.c2
      have x0 := G.out.b4.c0
      have x1 := G.out.b4.c1
      have x2 := G.out.b4.c2
      have y0 := G.out.f4.f0
      have y1 := G.out.f4.f1
      have y2 := G.out.f4.f2
      clear h5
      go_wp2_with fail
      have x := G.out.b4.put3 r (.slice a5 vs.length c5) (.slice b5 ss.length d5)
      have v0 := x.c0
      have v1 := x.c1
      have v2 := x.c2
      clear e0 e1 e2 x0 x1 x2 y0 y1 y2
      exact bodyPost_ret (by simp [results, Try.results32, go_sem, v0, v1, v2]; try rfl) rfl ⟨_, rfl, st3_below G.out.bel q4 HQ.out r (.slice a5 vs.length c5) (.slice b5 ss.length d5), (G.out.lz.rn.st3 G.out.q4N r (.slice a5 vs.length c5) (.slice b5 ss.length d5)).rs⟩
end Go.Proofs.Ytmhicllhjiglkaa
