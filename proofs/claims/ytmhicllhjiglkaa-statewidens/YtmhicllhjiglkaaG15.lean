import Derived.Test.YtmhicllhjiglkaaG14
namespace Go.Proofs.Ytmhicllhjiglkaa
open Go.RowKit
set_option maxRecDepth 100000 in
set_option maxHeartbeats 4000000 in
theorem together_l (fv : Value) (a b a2 b2 : Option Addr) (c d c2 d2 : Nat) (r2 : Bool) (vs vs2 : List R) (ss ss2 : List (List Int)) (w : World) (hv : RV w a2 vs2) (hs : RR w b2 ss2) (hvc : vs2.length ≤ c2) (hva : a2 = none → c2 = 0) (hl1 : vs2.length ≤ 100000) (hl2 : ss2.length ≤ 100000) (hl3 : ∀ (m : Nat) (l : List Int), ss2[m]? = some l → l.length ≤ 100000) :
    Calls Try.prog 43 #[.agg #[.bool false, .slice a vs.length c, .slice b ss.length d], .agg #[.bool r2, .slice a2 vs2.length c2, .slice b2 ss2.length d2], fv] w fun e w' => ∃ v, e = .returned v ∧ Rn w' w.heap.size v ⟨r2, vs2, ss2⟩ ∧ Below w.heap.size w w' := by
  have cC : ∀ w', Below w.heap.size w w' → Calls Try.prog 22 #[.agg #[.bool r2, .slice a2 vs2.length c2, .slice b2 ss2.length d2]] w' fun e w'' => ∃ v, e = .returned v ∧ Rn w'' w'.heap.size v ⟨r2, vs2, ss2⟩ ∧ Below w'.heap.size w' w'' := fun w' h => copy_S a2 b2 c2 d2 r2 vs2 ss2 w' (hv.keep h) (hs.keep h) hvc hva hl1 hl2 hl3
  clear hv hs hvc hva hl1 hl2 hl3
  go_enter Try.func43, Try.ntmps43
  go_upto_region 1 with fail
  go_name_world W hW
  obtain ⟨q5, h5⟩ : ∃ z9, z9 = w.heap.size + 1 + 1 := ⟨_, rfl⟩
  rw [← h5]
  obtain ⟨q1, h1⟩ : ∃ z9, z9 = w.heap.size + 1 := ⟨_, rfl⟩
  rw [← h1]
  obtain ⟨q0, h0⟩ : ∃ z9, z9 = w.heap.size := ⟨_, rfl⟩
  rw [← h0]
  obtain ⟨B0, -, B1, -, B2, F2, u⟩ := boxes3 w _ _ _ _ _ _ _ _ _ _ _ _ W hW
  rw [← h0] at B0
  rw [← h1] at B1
  rw [← h5] at B2 F2
  have HB5 := hide (And.intro B2 F2)
  have HU := hide u
  have HQ5 : Hid (w.heap.size ≤ q5) := hide (by omega)
  have e0 := B0.c0
  have e1 := B0.c1
  have e2 := B0.c2
  have x0 := B1.c0
  have x1 := B1.c1
  have x2 := B1.c2
  clear hW h5 h1 h0 B0 B1 B2 F2 u
  go_wp2_with (go_at_call 22; refine (cC _ HU.out).mono ?_; rintro e wB ⟨v, rfl, hR, hB⟩; have hR2 := hide hR; obtain ⟨a5, c5, b5, d5, hv5, -⟩ := hR; subst hv5; have z := HB5.out.1.keep hB; have y := HB5.out.2.of (hB.block q5 HB5.out.1.lt); have z0 := z.c0; have z1 := z.c1; have z2 := z.c2; have y0 := y.f0; have y1 := y.f1; have y2 := y.f2; have HZ := hide z; have HBB := hide hB; clear z y hB cC e0 e1 e2 x0 x1 x2)
  have x := HZ.out.put3 r2 (.slice a5 vs2.length c5) (.slice b5 ss2.length d5)
  have x0 := x.c0
  have x1 := x.c1
  have x2 := x.c2
  clear z0 z1 z2 y0 y1 y2
  exact bodyPost_ret (by simp [results, Try.results43, go_sem, x0, x1, x2]; try rfl) rfl ⟨_, rfl, (hR2.out.st3 HB5.out.1.lt _ _ _).mono HU.out.size, st3_below (HU.out.trans (HBB.out.mono HU.out.size)) q5 HQ5.out _ _ _⟩
set_option maxRecDepth 100000 in
set_option maxHeartbeats 4000000 in
theorem together_r (fv : Value) (a b a2 b2 : Option Addr) (c d c2 d2 : Nat) (vs vs2 : List R) (ss ss2 : List (List Int)) (w : World) (hv : RV w a vs) (hs : RR w b ss) (hvc : vs.length ≤ c) (hva : a = none → c = 0) (hl1 : vs.length ≤ 100000) (hl2 : ss.length ≤ 100000) (hl3 : ∀ (m : Nat) (l : List Int), ss[m]? = some l → l.length ≤ 100000) :
    Calls Try.prog 43 #[.agg #[.bool true, .slice a vs.length c, .slice b ss.length d], .agg #[.bool false, .slice a2 vs2.length c2, .slice b2 ss2.length d2], fv] w fun e w' => ∃ v, e = .returned v ∧ Rn w' w.heap.size v ⟨true, vs, ss⟩ ∧ Below w.heap.size w w' := by
  have cC : ∀ w', Below w.heap.size w w' → Calls Try.prog 22 #[.agg #[.bool true, .slice a vs.length c, .slice b ss.length d]] w' fun e w'' => ∃ v, e = .returned v ∧ Rn w'' w'.heap.size v ⟨true, vs, ss⟩ ∧ Below w'.heap.size w' w'' := fun w' h => copy_S a b c d true vs ss w' (hv.keep h) (hs.keep h) hvc hva hl1 hl2 hl3
  clear hv hs hvc hva hl1 hl2 hl3
  go_enter Try.func43, Try.ntmps43
  go_upto_region 1 with fail
  go_name_world W hW
  obtain ⟨q5, h5⟩ : ∃ z9, z9 = w.heap.size + 1 + 1 := ⟨_, rfl⟩
  rw [← h5]
  obtain ⟨q1, h1⟩ : ∃ z9, z9 = w.heap.size + 1 := ⟨_, rfl⟩
  rw [← h1]
  obtain ⟨q0, h0⟩ : ∃ z9, z9 = w.heap.size := ⟨_, rfl⟩
  rw [← h0]
  obtain ⟨B0, -, B1, -, B2, F2, u⟩ := boxes3 w _ _ _ _ _ _ _ _ _ _ _ _ W hW
  rw [← h0] at B0
  rw [← h1] at B1
  rw [← h5] at B2 F2
  have HB5 := hide (And.intro B2 F2)
  have HU := hide u
  have HQ5 : Hid (w.heap.size ≤ q5) := hide (by omega)
  have e0 := B0.c0
  have e1 := B0.c1
  have e2 := B0.c2
  have x0 := B1.c0
  have x1 := B1.c1
  have x2 := B1.c2
  clear hW h5 h1 h0 B0 B1 B2 F2 u
  go_wp2_with (go_at_call 22; refine (cC _ HU.out).mono ?_; rintro e wB ⟨v, rfl, hR, hB⟩; have hR2 := hide hR; obtain ⟨a5, c5, b5, d5, hv5, -⟩ := hR; subst hv5; have z := HB5.out.1.keep hB; have y := HB5.out.2.of (hB.block q5 HB5.out.1.lt); have z0 := z.c0; have z1 := z.c1; have z2 := z.c2; have y0 := y.f0; have y1 := y.f1; have y2 := y.f2; have HZ := hide z; have HBB := hide hB; clear z y hB cC e0 e1 e2 x0 x1 x2)
  have x := HZ.out.put3 true (.slice a5 vs.length c5) (.slice b5 ss.length d5)
  have x0 := x.c0
  have x1 := x.c1
  have x2 := x.c2
  clear z0 z1 z2 y0 y1 y2
  exact bodyPost_ret (by simp [results, Try.results43, go_sem, x0, x1, x2]; try rfl) rfl ⟨_, rfl, (hR2.out.st3 HB5.out.1.lt _ _ _).mono HU.out.size, st3_below (HU.out.trans (HBB.out.mono HU.out.size)) q5 HQ5.out _ _ _⟩
end Go.Proofs.Ytmhicllhjiglkaa
