import Derived.Test.YtmhicllhjiglkaaG21
namespace Go.Proofs.Ytmhicllhjiglkaa
open Go.RowKit
set_option maxRecDepth 100000 in
set_option maxHeartbeats 4000000 in
theorem both_l (wd r2 : Bool) (a b a2 b2 : Option Addr) (n m c d n2 m2 c2 d2 : Nat) (w : World) :
    Calls Try.prog 45 #[.agg #[.bool false, .slice a n c, .slice b m d], .agg #[.bool r2, .slice a2 n2 c2, .slice b2 m2 d2], .bool wd] w fun e w' => e = .returned (.agg #[.bool r2, .slice a2 n2 c2, .slice b2 m2 d2]) ∧ Below w.heap.size w w' := by
  go_enter Try.func45, Try.ntmps45
  go_wp2
  exact bodyPost_ret (by simp [results, Try.results45, go_sem]; try rfl) rfl ⟨rfl, (by repeat (first | exact Below.refl _ _ | (refine Below.setCell ?_ (by first | omega | (simp; done) | (simp; omega)) _) | (refine Below.alloc ?_ (by first | omega | (simp; done) | (simp; omega)) _)))⟩
set_option maxRecDepth 100000 in
set_option maxHeartbeats 4000000 in
theorem both_r (wd : Bool) (a b a2 b2 : Option Addr) (n m c d n2 m2 c2 d2 : Nat) (w : World) :
    Calls Try.prog 45 #[.agg #[.bool true, .slice a n c, .slice b m d], .agg #[.bool false, .slice a2 n2 c2, .slice b2 m2 d2], .bool wd] w fun e w' => e = .returned (.agg #[.bool true, .slice a n c, .slice b m d]) ∧ Below w.heap.size w w' := by
  go_enter Try.func45, Try.ntmps45
  go_wp2
  exact bodyPost_ret (by simp [results, Try.results45, go_sem]; try rfl) rfl ⟨rfl, (by repeat (first | exact Below.refl _ _ | (refine Below.setCell ?_ (by first | omega | (simp; done) | (simp; omega)) _) | (refine Below.alloc ?_ (by first | omega | (simp; done) | (simp; omega)) _)))⟩
theorem Rs.rp0 {w : World} {v : Value} {s : S} (h : Rs w v s) : Rp w [] v s := by
  obtain ⟨a, c, b, d, h1, h2, h3, h4⟩ := h
  refine ⟨a, c, b, d, h1, fun m x hx => ?_, fun m l hl => ?_, h4⟩
  · obtain ⟨b1, o1, e1, e2⟩ := h2 m x hx
    exact ⟨b1, o1, e1, List.not_mem_nil, e2⟩
  · obtain ⟨b1, o1, e, e1, e2, ai, ci, rfl, e3, e4⟩ := h3 m l hl
    refine ⟨b1, o1, _, e1, List.not_mem_nil, e2, ai, ci, rfl, fun i y hy => ?_, e4⟩
    obtain ⟨b2, o2, rfl, hc⟩ := e3 i y hy
    exact ⟨b2, o2, rfl, List.not_mem_nil, hc⟩
theorem Rp.keep {w w' : World} {L : List Nat} {v : Value} {s : S} (h : Rp w L v s) (hb : Below w.heap.size w w') : Rp w' L v s := h.of (fun _ t => .inl t) (fun k _ hk => hb.block k hk)
theorem Rp.put9 {w : World} {k : Nat} {v : Value} {s : S} (h : Rp w [k] v s) (r : Bool) (va sa : Value) : Rp (st3 w k r va sa) [k] v s := h.of (fun _ t => .inl t) (fun j hj _ => st3_block w k r va sa j (fun e => hj (e ▸ List.mem_singleton.2 rfl)))
theorem bothj_S {w : World} {v1 v2 : Value} {x y : VS} {n m : Nat} {L : List Nat} (p1 : Rp w L v1 x.raw) (p2 : Rp w L v2 y.raw) (hL : ∀ k ∈ L, k < w.heap.size) (k1 : VOk n x) (k2 : VOk m y) (hn : n ≤ 5000) (hm : m ≤ 5000) :
    Calls Try.prog 45 #[v1, v2, .bool false] w fun e w' => ∃ v, e = .returned v ∧ Below w.heap.size w w' ∧ Rp w' L v (togV joinV x y).raw := by
  have g1 := fun w' (h : Below w.heap.size w w') => p1.keep h
  have g2 := fun w' (h : Below w.heap.size w w') => p2.keep h
  have h1 := p1.rs
  have h2 := p2.rs
  clear p1 p2
  obtain ⟨a, c, b, d, rfl, e1, e2, e3, e4, e5, e6⟩ := h1
  obtain ⟨a2, c2, b2, d2, rfl, f1, f2, f3, f4, f5, f6⟩ := h2
  obtain ⟨r, us, ss⟩ := x
  obtain ⟨r2, us2, ss2⟩ := y
  have i1 := k1.len
  have i2 := k2.len
  have i3 := k1.le
  have i4 := k2.le
  dsimp only [VS.raw] at *
  cases r with
  | false =>
    refine (both_l false r2 a b a2 b2 _ _ c d _ _ c2 d2 w).mono ?_
    rintro e w' ⟨rfl, hB⟩
    exact ⟨_, rfl, hB, g2 w' hB⟩
  | true =>
    cases r2 with
    | false =>
      refine (both_r false a b a2 b2 _ _ c d _ _ c2 d2 w).mono ?_
      rintro e w' ⟨rfl, hB⟩
      exact ⟨_, rfl, hB, g1 w' hB⟩
    | true =>
      rw [List.length_map, List.length_map]
      refine (bothr_j a b a2 b2 c d c2 d2 us us2 ss ss2 w e1 e2 f1 f2 i3 i4 i1 i2 (fun l hl => by have := k1.up l hl; exact ⟨this.1, by omega⟩) (fun l hl => by have := k2.up l hl; exact ⟨this.1, by omega⟩)).mono ?_
      rintro e w' ⟨v, rfl, hR, hB⟩
      exact ⟨v, rfl, hB, hR.rp hL⟩
set_option maxRecDepth 100000 in
set_option maxHeartbeats 4000000 in
theorem ref15_S {w : World} {v1 v2 : Value} {x y : VS} {n m : Nat} (h1 : Rs w v1 x.raw) (h2 : Rs w v2 y.raw) (k1 : VOk n x) (k2 : VOk m y) (hn : n ≤ 5000) (hm : m ≤ 5000) :
    Calls Try.prog 15 #[v1, v2] w fun e w' => ∃ v, e = .returned v ∧ Below w.heap.size w w' ∧ Rs w' v (togV joinV x y).raw := by
  have cT : ∀ w' q, Below w.heap.size w w' → w.heap.size ≤ q → q < w'.heap.size → Calls Try.prog 45 #[v1, v2, .bool false] w' fun e w'' => ∃ v, e = .returned v ∧ Below w'.heap.size w' w'' ∧ Rp w'' [q] v (togV joinV x y).raw := fun w' q h hq hq2 => by
    have t1 := h1.rp0.of (L' := [q]) (fun k hk => by simp at hk; subst hk; exact .inr hq) (fun k _ hk => h.block k hk)
    have t2 := h2.rp0.of (L' := [q]) (fun k hk => by simp at hk; subst hk; exact .inr hq) (fun k _ hk => h.block k hk)
    exact bothj_S t1 t2 (fun k hk => by simp at hk; subst hk; exact hq2) k1 k2 hn hm
  obtain ⟨a, c, b, d, rfl, -⟩ := h1
  obtain ⟨a2, c2, b2, d2, rfl, -⟩ := h2
  obtain ⟨z, hz⟩ : ∃ z, z = togV joinV x y := ⟨_, rfl⟩
  rw [← hz] at cT ⊢
  clear hz
  obtain ⟨r, vs, ss, hx⟩ : ∃ r vs ss, x.raw = ⟨r, vs, ss⟩ := ⟨_, _, _, rfl⟩
  obtain ⟨r2, vs2, ss2, hy⟩ : ∃ r vs ss, y.raw = ⟨r, vs, ss⟩ := ⟨_, _, _, rfl⟩
  rw [hx, hy] at cT
  rw [hx, hy]
  dsimp only at cT ⊢
  clear hx hy k1 k2
  obtain ⟨zr, zv, zs, hz⟩ : ∃ r vs ss, z.raw = ⟨r, vs, ss⟩ := ⟨_, _, _, rfl⟩
  rw [hz] at cT ⊢
  clear hz
  go_enter Try.func15, Try.ntmps15
  go_upto_region 1 with fail
  go_name_world W hW
  obtain ⟨q5, h5⟩ : ∃ z9, z9 = w.heap.size + 1 + 1 := ⟨_, rfl⟩
  rw [← h5]
  obtain ⟨q1, h1⟩ : ∃ z9, z9 = w.heap.size + 1 := ⟨_, rfl⟩
  rw [← h1]
  obtain ⟨q0, h0⟩ : ∃ z9, z9 = w.heap.size := ⟨_, rfl⟩
  rw [← h0]
  obtain ⟨B0, -, B1, -, B2, F2, u⟩ := boxes3 w _ _ _ _ _ _ _ _ _ _ _ _ W hW
  rw [← h0] at B0
  rw [← h1] at B1
  rw [← h5] at B2 F2
  have HB5 := hide (And.intro B2 F2)
  have HU := hide u
  have HQ5 : Hid (w.heap.size ≤ q5) := hide (by omega)
  have e0 := B0.c0
  have e1 := B0.c1
  have e2 := B0.c2
  have x0 := B1.c0
  have x1 := B1.c1
  have x2 := B1.c2
  clear hW h5 h1 h0 B0 B1 B2 F2 u
  go_wp2_with (go_at_call 45; refine (cT _ q5 HU.out HQ5.out HB5.out.1.lt).mono ?_; rintro e wB ⟨v, rfl, hB, hR⟩; have hR2 := hide hR; obtain ⟨a5, c5, b5, d5, hv5, -⟩ := hR; subst hv5; dsimp only at hR2 ⊢; have z := HB5.out.1.keep hB; have y := HB5.out.2.of (hB.block q5 HB5.out.1.lt); have z0 := z.c0; have z1 := z.c1; have z2 := z.c2; have y0 := y.f0; have y1 := y.f1; have y2 := y.f2; have HZ := hide z; have HBB := hide hB; clear z y hB cT e0 e1 e2 x0 x1 x2)
  have x := HZ.out.put3 zr (.slice a5 zv.length c5) (.slice b5 zs.length d5)
  have x0 := x.c0
  have x1 := x.c1
  have x2 := x.c2
  clear z0 z1 z2 y0 y1 y2
  exact bodyPost_ret (by simp [results, Try.results15, go_sem, x0, x1, x2]; try rfl) rfl ⟨_, rfl, st3_below (HU.out.trans (HBB.out.mono HU.out.size)) q5 HQ5.out _ _ _, (hR2.out.put9 _ _ _).rs⟩
theorem bothw_S {w : World} {v1 v2 : Value} {x y : VS} {n m : Nat} {L : List Nat} (p1 : Rp w L v1 x.raw) (p2 : Rp w L v2 y.raw) (hL : ∀ k ∈ L, k < w.heap.size) (k1 : VOk n x) (k2 : VOk m y) (hn : n ≤ 5000) (hm : m ≤ 5000) :
    Calls Try.prog 45 #[v1, v2, .bool true] w fun e w' => ∃ v, e = .returned v ∧ Below w.heap.size w w' ∧ Rp w' L v (togV widenV x y).raw := by
  have g1 := fun w' (h : Below w.heap.size w w') => p1.keep h
  have g2 := fun w' (h : Below w.heap.size w w') => p2.keep h
  have h1 := p1.rs
  have h2 := p2.rs
  clear p1 p2
  obtain ⟨a, c, b, d, rfl, e1, e2, e3, e4, e5, e6⟩ := h1
  obtain ⟨a2, c2, b2, d2, rfl, f1, f2, f3, f4, f5, f6⟩ := h2
  obtain ⟨r, us, ss⟩ := x
  obtain ⟨r2, us2, ss2⟩ := y
  have i1 := k1.len
  have i2 := k2.len
  have i3 := k1.le
  have i4 := k2.le
  dsimp only [VS.raw] at *
  cases r with
  | false =>
    refine (both_l true r2 a b a2 b2 _ _ c d _ _ c2 d2 w).mono ?_
    rintro e w' ⟨rfl, hB⟩
    exact ⟨_, rfl, hB, g2 w' hB⟩
  | true =>
    cases r2 with
    | false =>
      refine (both_r true a b a2 b2 _ _ c d _ _ c2 d2 w).mono ?_
      rintro e w' ⟨rfl, hB⟩
      exact ⟨_, rfl, hB, g1 w' hB⟩
    | true =>
      rw [List.length_map, List.length_map]
      refine (bothr_w a b a2 b2 c d c2 d2 us us2 ss ss2 w e1 e2 f1 f2 i3 i4 i1 i2 (fun l hl => by have := k1.up l hl; exact ⟨this.1, by omega⟩) (fun l hl => by have := k2.up l hl; exact ⟨this.1, by omega⟩)).mono ?_
      rintro e w' ⟨v, rfl, hR, hB⟩
      exact ⟨v, rfl, hB, hR.rp hL⟩
set_option maxRecDepth 100000 in
set_option maxHeartbeats 4000000 in
theorem ref17_S {w : World} {v1 v2 : Value} {x y : VS} {n m : Nat} (h1 : Rs w v1 x.raw) (h2 : Rs w v2 y.raw) (k1 : VOk n x) (k2 : VOk m y) (hn : n ≤ 5000) (hm : m ≤ 5000) :
    Calls Try.prog 17 #[v1, v2] w fun e w' => ∃ v, e = .returned v ∧ Below w.heap.size w w' ∧ Rs w' v (togV widenV x y).raw := by
  have cT : ∀ w' q, Below w.heap.size w w' → w.heap.size ≤ q → q < w'.heap.size → Calls Try.prog 45 #[v1, v2, .bool true] w' fun e w'' => ∃ v, e = .returned v ∧ Below w'.heap.size w' w'' ∧ Rp w'' [q] v (togV widenV x y).raw := fun w' q h hq hq2 => by
    have t1 := h1.rp0.of (L' := [q]) (fun k hk => by simp at hk; subst hk; exact .inr hq) (fun k _ hk => h.block k hk)
    have t2 := h2.rp0.of (L' := [q]) (fun k hk => by simp at hk; subst hk; exact .inr hq) (fun k _ hk => h.block k hk)
    exact bothw_S t1 t2 (fun k hk => by simp at hk; subst hk; exact hq2) k1 k2 hn hm
  obtain ⟨a, c, b, d, rfl, -⟩ := h1
  obtain ⟨a2, c2, b2, d2, rfl, -⟩ := h2
  obtain ⟨z, hz⟩ : ∃ z, z = togV widenV x y := ⟨_, rfl⟩
  rw [← hz] at cT ⊢
  clear hz
  obtain ⟨r, vs, ss, hx⟩ : ∃ r vs ss, x.raw = ⟨r, vs, ss⟩ := ⟨_, _, _, rfl⟩
  obtain ⟨r2, vs2, ss2, hy⟩ : ∃ r vs ss, y.raw = ⟨r, vs, ss⟩ := ⟨_, _, _, rfl⟩
  rw [hx, hy] at cT
  rw [hx, hy]
  dsimp only at cT ⊢
  clear hx hy k1 k2
  obtain ⟨zr, zv, zs, hz⟩ : ∃ r vs ss, z.raw = ⟨r, vs, ss⟩ := ⟨_, _, _, rfl⟩
  rw [hz] at cT ⊢
  clear hz
  go_enter Try.func17, Try.ntmps17
  go_upto_region 1 with fail
  go_name_world W hW
  obtain ⟨q5, h5⟩ : ∃ z9, z9 = w.heap.size + 1 + 1 := ⟨_, rfl⟩
  rw [← h5]
  obtain ⟨q1, h1⟩ : ∃ z9, z9 = w.heap.size + 1 := ⟨_, rfl⟩
  rw [← h1]
  obtain ⟨q0, h0⟩ : ∃ z9, z9 = w.heap.size := ⟨_, rfl⟩
  rw [← h0]
  obtain ⟨B0, -, B1, -, B2, F2, u⟩ := boxes3 w _ _ _ _ _ _ _ _ _ _ _ _ W hW
  rw [← h0] at B0
  rw [← h1] at B1
  rw [← h5] at B2 F2
  have HB5 := hide (And.intro B2 F2)
  have HU := hide u
  have HQ5 : Hid (w.heap.size ≤ q5) := hide (by omega)
  have e0 := B0.c0
  have e1 := B0.c1
  have e2 := B0.c2
  have x0 := B1.c0
  have x1 := B1.c1
  have x2 := B1.c2
  clear hW h5 h1 h0 B0 B1 B2 F2 u
  go_wp2_with (go_at_call 45; refine (cT _ q5 HU.out HQ5.out HB5.out.1.lt).mono ?_; rintro e wB ⟨v, rfl, hB, hR⟩; have hR2 := hide hR; obtain ⟨a5, c5, b5, d5, hv5, -⟩ := hR; subst hv5; dsimp only at hR2 ⊢; have z := HB5.out.1.keep hB; have y := HB5.out.2.of (hB.block q5 HB5.out.1.lt); have z0 := z.c0; have z1 := z.c1; have z2 := z.c2; have y0 := y.f0; have y1 := y.f1; have y2 := y.f2; have HZ := hide z; have HBB := hide hB; clear z y hB cT e0 e1 e2 x0 x1 x2)
  have x := HZ.out.put3 zr (.slice a5 zv.length c5) (.slice b5 zs.length d5)
  have x0 := x.c0
  have x1 := x.c1
  have x2 := x.c2
  clear z0 z1 z2 y0 y1 y2
  exact bodyPost_ret (by simp [results, Try.results17, go_sem, x0, x1, x2]; try rfl) rfl ⟨_, rfl, st3_below (HU.out.trans (HBB.out.mono HU.out.size)) q5 HQ5.out _ _ _, (hR2.out.put9 _ _ _).rs⟩
end Go.Proofs.Ytmhicllhjiglkaa
