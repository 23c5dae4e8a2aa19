import Derived.Test.YtmhicllhjiglkaaG17
import Derived.Test.YtmhicllhjiglkaaG05
import Derived.Test.YtmhicllhjiglkaaG19
import Derived.Test.YtmhicllhjiglkaaG18
namespace Go.Proofs.Ytmhicllhjiglkaa
open Go.RowKit
/-- both boxes, the result's, and what is made so far -/
structure Bo (w0 w : World) (q0 q1 q5 q2 : Nat) (A0 B0 A1 B1 : Value) (s : S) (va sa : Value) (es : List Value) : Prop where
  b0 : Bs w q0 true A0 B0
  b1 : Bs w q1 true A1 B1
  b5 : Bs w q5 false (.slice none 0 0) (.slice none 0 0)
  f5 : Fs w q5
  lo : Lo w (q2 + 1) q2 48 s va sa es
  bel : Below w0.heap.size w0 w
theorem Bo.keep {w0 w w' : World} {q0 q1 q5 q2 : Nat} {A0 B0 A1 B1 : Value} {s : S} {va sa : Value} {es : List Value} (h : Bo w0 w q0 q1 q5 q2 A0 B0 A1 B1 s va sa es) (hb : Below w.heap.size w w') : Bo w0 w' q0 q1 q5 q2 A0 B0 A1 B1 s va sa es :=
  ⟨h.b0.keep hb, h.b1.keep hb, h.b5.keep hb, h.f5.of (hb.block _ h.b5.lt), h.lo.of hb, h.bel.trans (hb.mono h.bel.size)⟩
theorem Bo.put {w0 w w' : World} {q0 q1 q5 q2 : Nat} {A0 B0 A1 B1 : Value} {s s' : S} {va sa va' sa' : Value} {es es' : List Value} (h : Bo w0 w q0 q1 q5 q2 A0 B0 A1 B1 s va sa es) (f0 : q0 < q2) (f1 : q1 < q2) (f5 : q5 < q2) (f2 : w0.heap.size ≤ q2) (hb : Below q2 w w') (hl : Lo w' (q2 + 1) q2 48 s' va' sa' es') : Bo w0 w' q0 q1 q5 q2 A0 B0 A1 B1 s' va' sa' es' :=
  ⟨h.b0.of (hb.block _ f0), h.b1.of (hb.block _ f1), h.b5.of (hb.block _ f5), h.f5.of (hb.block _ f5), hl, h.bel.trans (hb.mono f2)⟩
set_option maxRecDepth 100000 in
set_option maxHeartbeats 8000000 in
theorem bothr_j (a b a2 b2 : Option Addr) (c d c2 d2 : Nat) (us us2 : List V) (ss ss2 : List (List Int)) (w : World) (hv : RV w a (us.map V.raw)) (hs : RR w b ss) (hv2 : RV w a2 (us2.map V.raw)) (hs2 : RR w b2 ss2)
    (hl : us.length ≤ 1000) (hl2 : us2.length ≤ 1000) (hls : ss.length = us.length) (hls2 : ss2.length = us2.length) (hl3 : ∀ l ∈ ss, UpP l ∧ l.length ≤ 10000) (hl4 : ∀ l ∈ ss2, UpP l ∧ l.length ≤ 10000) :
    Calls Try.prog 45 #[.agg #[.bool true, .slice a us.length c, .slice b ss.length d], .agg #[.bool true, .slice a2 us2.length c2, .slice b2 ss2.length d2], .bool false] w fun e w' => ∃ v, e = .returned v ∧ Rn w' w.heap.size v ⟨true, (List.zipWith joinV us us2).map V.raw, List.zipWith uniL ss ss2⟩ ∧ Below w.heap.size w w' := by
  have HV := hide hv
  have HR := hide hs
  have HV2 := hide hv2
  have HR2 := hide hs2
  have HL := hide (And.intro hl3 hl4)
  have HLS := hide (And.intro hls hls2)
  have i1 : (us.length : Int) ≤ 1000 := by omega
  have i2 : (us2.length : Int) ≤ 1000 := by omega
  clear hv hs hv2 hs2 hl3 hl4 hls hls2
  obtain ⟨M, hM⟩ : ∃ M, M = min us.length us2.length := ⟨_, rfl⟩
  have HM := hide hM
  have iM : (M : Int) ≤ 1000 := by omega
  clear hM
  have cR1 : ∀ w, Calls Try.prog 51 #[.agg #[.bool true, .slice a us.length c, .slice b ss.length d]] w fun e w' => e = .returned (.int .i64 (us.length : Int)) ∧ Below w.heap.size w w' := fun w => by
    have t := regs_any true a b us.length c ss.length d w
    rw [HLS.out.1, Nat.min_self] at t
    rw [HLS.out.1]; exact t
  have cR2 : ∀ w, Calls Try.prog 51 #[.agg #[.bool true, .slice a2 us2.length c2, .slice b2 ss2.length d2]] w fun e w' => e = .returned (.int .i64 (us2.length : Int)) ∧ Below w.heap.size w w' := fun w => by
    have t := regs_any true a2 b2 us2.length c2 ss2.length d2 w
    rw [HLS.out.2, Nat.min_self] at t
    rw [HLS.out.2]; exact t
  go_enter Try.func45, Try.ntmps45
  go_upto_region 5 with fail
  go_name_world W0 hW0
  obtain ⟨q5, h5⟩ : ∃ z9, z9 = w.heap.size + 1 + 1 := ⟨_, rfl⟩
  rw [← h5]
  obtain ⟨q1, h1⟩ : ∃ z9, z9 = w.heap.size + 1 := ⟨_, rfl⟩
  rw [← h1]
  obtain ⟨q0, h0⟩ : ∃ z9, z9 = w.heap.size := ⟨_, rfl⟩
  rw [← h0]
  have HW0 : Hid ((Bs W0 q0 true (.slice a us.length c) (.slice b ss.length d) ∧ Bs W0 q1 true (.slice a2 us2.length c2) (.slice b2 ss2.length d2) ∧ Bs W0 q5 false (.slice none 0 0) (.slice none 0 0) ∧ Fs W0 q5) ∧ Below w.heap.size w W0) := by
    unfold Hid
    rw [h5, h1, h0]
    obtain ⟨B0, -, B1, -, B2, F2, u⟩ := boxes3 w _ _ _ _ _ _ _ _ _ _ _ _ W0 hW0
    exact ⟨⟨B0, B1, B2, F2⟩, u⟩
  have HQ : Hid (q0 < q5 ∧ q1 < q5 ∧ w.heap.size ≤ q5) := hide (by omega)
  clear hW0 h5 h1 h0
  go_upto_region 6 with fail
  go_name_world W hW
  obtain ⟨q2, hq2⟩ : ∃ z9, z9 = W0.heap.size := ⟨_, rfl⟩
  rw [← hq2]
  have H1 : Hid (Bo w W q0 q1 q5 q2 (.slice a us.length c) (.slice b ss.length d) (.slice a2 us2.length c2) (.slice b2 ss2.length d2) ⟨true, [], []⟩ (.slice none 0 0) (.slice none 0 0) []) := by
    unfold Hid
    rw [hq2]
    obtain ⟨B0, F0, u⟩ := box1 W0 _ _ _ _ W hW
    have t := HW0.out.1
    exact ⟨t.1.keep u, t.2.1.keep u, t.2.2.1.keep u, t.2.2.2.of (u.block q5 t.2.2.1.lt), Lo.start _ B0 F0 (Nat.lt_succ_self _), HW0.out.2.trans (u.mono HW0.out.2.size)⟩
  have FQ : Hid (q0 < q2 ∧ q1 < q2 ∧ q5 < q2 ∧ w.heap.size ≤ q2 ∧ w.heap.size ≤ q5) := by
    have := HW0.out.1.2.2.1.lt
    have := HQ.out
    unfold Hid
    omega
  clear hW hq2 HW0 HQ
  go_wp2_with fail
  go_loopw [8] (fun s8 wr => ∃ (k : Nat) (va sa : Value) (es : List Value), s8 = .int .i64 k ∧ k ≤ M ∧ Hid (Bo w wr q0 q1 q5 q2 (.slice a us.length c) (.slice b ss.length d) (.slice a2 us2.length c2) (.slice b2 ss2.length d2) ⟨true, (List.zipWith joinV (us.take k) (us2.take k)).map V.raw, List.zipWith uniL (ss.take k) (ss2.take k)⟩ va sa es)) (fun s8 _ => M - (intOf s8).toNat)
  case atStart => exact ⟨0, _, _, _, rfl, Nat.zero_le _, H1.out⟩
  case round =>
    obtain ⟨k, va, sa, es, rfl, hk, h4⟩ := hrel
    clear H1
    have e0 := h4.out.b0.c0
    have e1 := h4.out.b0.c1
    have e2 := h4.out.b0.c2
    by_cases hkM : k < M
    · have hkM2 : (k : Int) < M := by omega
      have j1 : k < us.length := by have := HM.out; omega
      have j2 : k < us2.length := by have := HM.out; omega
      have j3 : (k : Int) < us.length := by omega
      have j4 : (k : Int) < us2.length := by omega
      have j5 : k < ss.length := by have := HLS.out; omega
      have j6 : k < ss2.length := by have := HLS.out; omega
      have j7 : (k : Int) < ss.length := by omega
      have j8 : (k : Int) < ss2.length := by omega
      obtain ⟨b1, o1, x0, hX, rfl, hx6⟩ := HV.out.at (m := k) (by rw [List.length_map]; exact j1)
      obtain ⟨b3, o3, y0, hY, rfl, hy6⟩ := HV2.out.at (m := k) (by rw [List.length_map]; exact j2)
      obtain ⟨b6, o6, l, ai, ci, hL, rfl, f1, f2, f3, f4⟩ := HR.out.at j5
      obtain ⟨b7, o7, m, aj, cj, hL2, rfl, f5, f6, f7, f8⟩ := HR2.out.at j6
      obtain ⟨x, hxk, rfl⟩ : ∃ x, us[k]? = some x ∧ x.raw = x0 := by rw [List.getElem?_map, Option.map_eq_some_iff] at hX; exact hX
      obtain ⟨y, hyk, rfl⟩ : ∃ y, us2[k]? = some y ∧ y.raw = y0 := by rw [List.getElem?_map, Option.map_eq_some_iff] at hY; exact hY
      have HT1 : Hid ((List.zipWith joinV (us.take (k + 1)) (us2.take (k + 1))).map V.raw = (List.zipWith joinV (us.take k) (us2.take k)).map V.raw ++ [(joinV x y).raw]) := hide (by
        rw [take_more hxk, take_more hyk, List.zipWith_append (by rw [List.length_take, List.length_take]; omega), List.map_append]; rfl)
      have HT2 : Hid (List.zipWith uniL (ss.take (k + 1)) (ss2.take (k + 1)) = List.zipWith uniL (ss.take k) (ss2.take k) ++ [uniL l m]) := hide (by
        rw [take_more hL, take_more hL2, List.zipWith_append (by rw [List.length_take, List.length_take]; omega)]; rfl)
      have HLM : Hid (l.length ≤ 10000 ∧ m.length ≤ 10000) := hide ⟨(HL.out.1 l (List.mem_of_getElem? hL)).2, (HL.out.2 m (List.mem_of_getElem? hL2)).2⟩
      have HUP : Hid (UpP l ∧ UpP m) := hide ⟨(HL.out.1 l (List.mem_of_getElem? hL)).1, (HL.out.2 m (List.mem_of_getElem? hL2)).1⟩
      have HNl : Hid (ai = none → ci = 0 ∧ l = []) := hide (fun e => ⟨f4 e, List.eq_nil_of_length_eq_zero (by have := f4 e; omega)⟩)
      have HNm : Hid (aj = none → cj = 0 ∧ m = []) := hide (fun e => ⟨f8 e, List.eq_nil_of_length_eq_zero (by have := f8 e; omega)⟩)
      have cG := fun w => joinr_V x y w
      generalize joinV x y = u at *
      obtain ⟨pv, hpv⟩ : ∃ z9, z9 = (List.zipWith joinV (us.take k) (us2.take k)).map V.raw := ⟨_, rfl⟩
      have hlv : pv.length ≤ 1000000 := by rw [hpv, List.length_map, List.length_zipWith, List.length_take]; omega
      obtain ⟨ts, hts⟩ : ∃ z9, z9 = List.zipWith uniL (ss.take k) (ss2.take k) := ⟨_, rfl⟩
      have HTL : Hid (ts.length ≤ 1000000) := hide (by rw [hts, List.length_zipWith, List.length_take]; omega)
      rw [← hpv, ← hts] at h4
      rw [← hpv] at HT1
      rw [← hts] at HT2
      have H6 := hide (And.intro hx6 hy6)
      have H7 := hide (And.intro f1 (And.intro f2 (And.intro f5 f6)))
      clear hX hY hx6 hy6 hL hL2 f1 f2 f3 f4 f5 f6 f7 f8 hxk hyk hpv hts
      go_upto_region 9 with (first | (go_at_call 51; refine (cR1 _).mono ?_; rintro e wA ⟨rfl, hA⟩; have h5 := hide (h4.out.keep hA); clear h4 e0 e1 e2 cR1 hA; have e0 := h5.out.b1.c0; have e1 := h5.out.b1.c1; have e2 := h5.out.b1.c2) | (go_at_call 51; refine (cR2 _).mono ?_; rintro e wB ⟨rfl, hB⟩; have h6 := hide (h5.out.keep hB); clear h5 e0 e1 e2 cR2 hB; have e0 := h6.out.b0.c0; have e1 := h6.out.b0.c1; have e2 := h6.out.b0.c2))
      go_name_world W9 hW9
      rw [hW9] at h6
      clear hW9 e0 e1 e2
      have HBo : Hid (Bo w W9 q0 q1 q5 q2 (.slice (some ⟨b1, o1, none⟩) us.length c) (.slice (some ⟨b6, o6, none⟩) ss.length d) (.slice (some ⟨b3, o3, none⟩) us2.length c2) (.slice (some ⟨b7, o7, none⟩) ss2.length d2) ⟨true, pv, ts⟩ va sa es) := h6
      clear h6
      have HS : Hid (∀ w', Below W9.heap.size W9 w' → (w'.cell? ⟨q0, 1, none⟩ = some (.slice (some ⟨b1, o1, none⟩) us.length c) ∧ w'.cell? ⟨q1, 1, none⟩ = some (.slice (some ⟨b3, o3, none⟩) us2.length c2) ∧ w'.cell? ⟨b1, o1 + k * 6, none⟩ = some (.int .i64 (up x.s)) ∧ w'.cell? ⟨b1, o1 + k * 6 + 1, none⟩ = some (.bool x.k) ∧ w'.cell? ⟨b1, o1 + k * 6 + 2, none⟩ = some (.int .i64 x.n) ∧ w'.cell? ⟨b1, o1 + k * 6 + 3, none⟩ = some (.int .i64 x.lo) ∧ w'.cell? ⟨b1, o1 + k * 6 + 4, none⟩ = some (.int .i64 x.hi) ∧ w'.cell? ⟨b1, o1 + k * 6 + 5, none⟩ = some (.int .i64 (up x.p)) ∧ w'.cell? ⟨b3, o3 + k * 6, none⟩ = some (.int .i64 (up y.s)) ∧ w'.cell? ⟨b3, o3 + k * 6 + 1, none⟩ = some (.bool y.k) ∧ w'.cell? ⟨b3, o3 + k * 6 + 2, none⟩ = some (.int .i64 y.n) ∧ w'.cell? ⟨b3, o3 + k * 6 + 3, none⟩ = some (.int .i64 y.lo) ∧ w'.cell? ⟨b3, o3 + k * 6 + 4, none⟩ = some (.int .i64 y.hi) ∧ w'.cell? ⟨b3, o3 + k * 6 + 5, none⟩ = some (.int .i64 (up y.p)))) := hide (fun w' h => by
        have t := H6.out.1.keep (HBo.out.bel.trans (h.mono HBo.out.bel.size))
        have t2 := H6.out.2.keep (HBo.out.bel.trans (h.mono HBo.out.bel.size))
        exact ⟨(HBo.out.b0.keep h).c1, (HBo.out.b1.keep h).c1, t.c0, t.c1, t.c2, t.c3, t.c4, t.c5, t2.c0, t2.c1, t2.c2, t2.c3, t2.c4, t2.c5⟩)
      go_cut [8, 9] (fun s8 s9 wx => s8 = .int .i64 k ∧ ∃ n9, s9 = .pointer (some ⟨n9, 0, none⟩) ∧ Hid (Below W9.heap.size W9 wx ∧ Br wx n9 (up u.s) u.k u.n u.lo u.hi (up u.p) ∧ Fz wx n9 ∧ W9.heap.size ≤ n9))
      case first =>
          refine wp_region_held_drew (S := fun w' => w'.cell? ⟨q0, 1, none⟩ = some (.slice (some ⟨b1, o1, none⟩) us.length c) ∧ w'.cell? ⟨q1, 1, none⟩ = some (.slice (some ⟨b3, o3, none⟩) us2.length c2) ∧ w'.cell? ⟨b1, o1 + k * 6, none⟩ = some (.int .i64 (up x.s)) ∧ w'.cell? ⟨b1, o1 + k * 6 + 1, none⟩ = some (.bool x.k) ∧ w'.cell? ⟨b1, o1 + k * 6 + 2, none⟩ = some (.int .i64 x.n) ∧ w'.cell? ⟨b1, o1 + k * 6 + 3, none⟩ = some (.int .i64 x.lo) ∧ w'.cell? ⟨b1, o1 + k * 6 + 4, none⟩ = some (.int .i64 x.hi) ∧ w'.cell? ⟨b1, o1 + k * 6 + 5, none⟩ = some (.int .i64 (up x.p)) ∧ w'.cell? ⟨b3, o3 + k * 6, none⟩ = some (.int .i64 (up y.s)) ∧ w'.cell? ⟨b3, o3 + k * 6 + 1, none⟩ = some (.bool y.k) ∧ w'.cell? ⟨b3, o3 + k * 6 + 2, none⟩ = some (.int .i64 y.n) ∧ w'.cell? ⟨b3, o3 + k * 6 + 3, none⟩ = some (.int .i64 y.lo) ∧ w'.cell? ⟨b3, o3 + k * 6 + 4, none⟩ = some (.int .i64 y.hi) ∧ w'.cell? ⟨b3, o3 + k * 6 + 5, none⟩ = some (.int .i64 (up y.p))) (by kernel_rfl) (HS.out _ (Below.refl _ _).drew) (fun hH0 => ?_)
          obtain ⟨w0, hw0⟩ : ∃ w0, w0 = W9.drew := ⟨_, rfl⟩
          (try rw [← hw0] at hH0)
          rw [← hw0]
          have b0 : Hid (Below W9.heap.size W9 w0) := hw0 ▸ hide (Below.refl _ _).drew
          clear hw0
          refine wpAnyH_take (i := 0) (oi := ({ dst := some 31, op := Op.fieldAddr 25 (Operand.tmp 3) 1, type := 0, pos := _, after := _, guard := _ } : Oper)) (v := ?_) rfl (by kernel_rfl) (by kernel_rfl) (by kernel_rfl) (fun _ _ _ h => h) (Or.inl ⟨by rfl, ?_⟩) (by assumption) ?_
          rotate_left
          · (intro wz hSw; (try dsimp only at hSw); go_simp; try with_reducible rfl)
          simp only [Act.put, List.setIfInBounds_toArray, List.set_cons_zero, List.set_cons_succ]
          refine wpAnyH_take (i := 1) (oi := ({ dst := some 32, op := Op.load 22 (Operand.tmp 31), type := 22, pos := _, after := _, guard := _ } : Oper)) (v := ?_) rfl (by kernel_rfl) (by kernel_rfl) (by kernel_rfl) (fun _ _ _ h => h) (Or.inl ⟨by rfl, ?_⟩) (by assumption) ?_
          rotate_left
          · (intro wz hSw; (try dsimp only at hSw); go_simp; try with_reducible rfl)
          simp only [Act.put, List.setIfInBounds_toArray, List.set_cons_zero, List.set_cons_succ]
          refine wpAnyH_take (i := 2) (oi := ({ dst := some 33, op := Op.move (Operand.tmp 8), type := 3, pos := _, after := _, guard := _ } : Oper)) (v := ?_) rfl (by kernel_rfl) (by kernel_rfl) (by kernel_rfl) (fun _ _ _ h => h) (Or.inl ⟨by rfl, ?_⟩) (by assumption) ?_
          rotate_left
          · (intro wz hSw; (try dsimp only at hSw); go_simp; try with_reducible rfl)
          simp only [Act.put, List.setIfInBounds_toArray, List.set_cons_zero, List.set_cons_succ]
          refine wpAnyH_take (i := 3) (oi := ({ dst := some 34, op := Op.indexAddr 22 (Operand.tmp 32) (Operand.tmp 33), type := 0, pos := _, after := _, guard := _ } : Oper)) (v := ?_) rfl (by kernel_rfl) (by kernel_rfl) (by kernel_rfl) (fun _ _ _ h => h) (Or.inl ⟨by rfl, ?_⟩) (by assumption) ?_
          rotate_left
          · (intro wz hSw; (try dsimp only at hSw); go_simp; try with_reducible rfl)
          simp only [Act.put, List.setIfInBounds_toArray, List.set_cons_zero, List.set_cons_succ]
          refine wpAnyH_take (i := 4) (oi := ({ dst := some 35, op := Op.load 48 (Operand.tmp 34), type := 48, pos := _, after := _, guard := _ } : Oper)) (v := ?_) rfl (by kernel_rfl) (by kernel_rfl) (by kernel_rfl) (fun _ _ _ h => h) (Or.inl ⟨by rfl, ?_⟩) (by assumption) ?_
          rotate_left
          · (intro wz hSw; (try dsimp only at hSw); go_simp; try with_reducible rfl)
          simp only [Act.put, List.setIfInBounds_toArray, List.set_cons_zero, List.set_cons_succ]
          refine wpAnyH_take (i := 5) (oi := ({ dst := some 36, op := Op.fieldAddr 25 (Operand.tmp 4) 1, type := 0, pos := _, after := _, guard := _ } : Oper)) (v := ?_) rfl (by kernel_rfl) (by kernel_rfl) (by kernel_rfl) (fun _ _ _ h => h) (Or.inl ⟨by rfl, ?_⟩) (by assumption) ?_
          rotate_left
          · (intro wz hSw; (try dsimp only at hSw); go_simp; try with_reducible rfl)
          simp only [Act.put, List.setIfInBounds_toArray, List.set_cons_zero, List.set_cons_succ]
          refine wpAnyH_take (i := 6) (oi := ({ dst := some 37, op := Op.load 22 (Operand.tmp 36), type := 22, pos := _, after := _, guard := _ } : Oper)) (v := ?_) rfl (by kernel_rfl) (by kernel_rfl) (by kernel_rfl) (fun _ _ _ h => h) (Or.inl ⟨by rfl, ?_⟩) (by assumption) ?_
          rotate_left
          · (intro wz hSw; (try dsimp only at hSw); go_simp; try with_reducible rfl)
          simp only [Act.put, List.setIfInBounds_toArray, List.set_cons_zero, List.set_cons_succ]
          refine wpAnyH_take (i := 7) (oi := ({ dst := some 38, op := Op.move (Operand.tmp 8), type := 3, pos := _, after := _, guard := _ } : Oper)) (v := ?_) rfl (by kernel_rfl) (by kernel_rfl) (by kernel_rfl) (fun _ _ _ h => h) (Or.inl ⟨by rfl, ?_⟩) (by assumption) ?_
          rotate_left
          · (intro wz hSw; (try dsimp only at hSw); go_simp; try with_reducible rfl)
          simp only [Act.put, List.setIfInBounds_toArray, List.set_cons_zero, List.set_cons_succ]
          refine wpAnyH_take (i := 8) (oi := ({ dst := some 39, op := Op.indexAddr 22 (Operand.tmp 37) (Operand.tmp 38), type := 0, pos := _, after := _, guard := _ } : Oper)) (v := ?_) rfl (by kernel_rfl) (by kernel_rfl) (by kernel_rfl) (fun _ _ _ h => h) (Or.inl ⟨by rfl, ?_⟩) (by assumption) ?_
          rotate_left
          · (intro wz hSw; (try dsimp only at hSw); go_simp; try with_reducible rfl)
          simp only [Act.put, List.setIfInBounds_toArray, List.set_cons_zero, List.set_cons_succ]
          refine wpAnyH_take (i := 9) (oi := ({ dst := some 40, op := Op.load 48 (Operand.tmp 39), type := 48, pos := _, after := _, guard := _ } : Oper)) (v := ?_) rfl (by kernel_rfl) (by kernel_rfl) (by kernel_rfl) (fun _ _ _ h => h) (Or.inl ⟨by rfl, ?_⟩) (by assumption) ?_
          rotate_left
          · (intro wz hSw; (try dsimp only at hSw); go_simp; try with_reducible rfl)
          simp only [Act.put, List.setIfInBounds_toArray, List.set_cons_zero, List.set_cons_succ]
          refine wpAnyH_ready (rs := [10, 11]) (by kernel_rfl) (by simp) ?_
          refine AllReadyH.cons (o := ({ dst := some 41, op := Op.call { callee := Callee.value (Operand.func 92), args := #[Operand.tmp 35, Operand.tmp 40], argTypes := #[48, 48] }, type := 48, pos := _, after := _, guard := _ } : Oper)) rfl (fun K hK => ?_) (AllReadyH.cons (o := ({ dst := some 9, op := Op.alloc 48, type := 0, pos := _, after := _, guard := _ } : Oper)) rfl (fun K hK => ?_) AllReadyH.nil)
          · go_simp
            go_at_call 92
            refine (cG _).mono ?_
            rintro e w1 ⟨rfl, hb1⟩
            have b1 := hide (b0.out.trans (hb1.mono b0.out.size))
            refine hK.out _ _ (HS.out _ b1.out) (fun hH1 => ?_)
            clear hK K hb1
            refine wpAnyH_ready (rs := [11]) (by kernel_rfl) (by simp) ?_
            refine AllReadyH.cons (o := ({ dst := some 9, op := Op.alloc 48, type := 0, pos := _, after := _, guard := _ } : Oper)) rfl (fun K hK => ?_) AllReadyH.nil
            · go_simp
              have hb2 : Below w1.heap.size w1 (w1.alloc (.cells #[.int .i64 0, .bool false, .int .i64 0, .int .i64 0, .int .i64 0, .int .i64 0] 48)) := (Below.refl _ _).alloc (Nat.le_refl _) _
              have b2 := hide (b1.out.trans (hb2.mono b1.out.size))
              have N9_2 := Br.new w1 0 false 0 0 0 0 48
              have Z9_2 := Fz.new w1 0 false 0 0 0 0 48
              have nk := hide b1.out.size
              refine hK.out _ _ (HS.out _ b2.out) (fun hH2 => ?_)
              clear hK K hb2
              obtain ⟨w2, hw2⟩ : ∃ z9, z9 = (w1.alloc (.cells #[.int .i64 0, .bool false, .int .i64 0, .int .i64 0, .int .i64 0, .int .i64 0] 48)) := ⟨_, rfl⟩
              rw [← hw2] at hH2 b2 N9_2 Z9_2 ⊢
              clear hw2
              generalize w1.heap.size = n9 at *
              refine wpAnyH_ready (rs := [12]) (by kernel_rfl) (by simp) ?_
              refine AllReadyH.cons (o := ({ dst := none, op := Op.store 48 (Operand.tmp 9) (Operand.tmp 41), type := 0, pos := _, after := _, guard := _ } : Oper)) rfl (fun K hK => ?_) AllReadyH.nil
              · have c0 := N9_2.c0
                have c1 := N9_2.c1
                have c2 := N9_2.c2
                have c3 := N9_2.c3
                have c4 := N9_2.c4
                have c5 := N9_2.c5
                have f0 := Z9_2.f0
                have f1 := Z9_2.f1
                have f2 := Z9_2.f2
                have f3 := Z9_2.f3
                have f4 := Z9_2.f4
                have f5 := Z9_2.f5
                go_simp
                have N9_3 := N9_2.wrote (up u.s) u.k u.n u.lo u.hi (up u.p)
                have Z9_3 := Z9_2.put (q := n9) (.int .i64 (up u.s)) (.bool u.k) (.int .i64 u.n) (.int .i64 u.lo) (.int .i64 u.hi) (.int .i64 (up u.p))
                have b3 := hide (st6_below b2.out n9 nk.out (.int .i64 (up u.s)) (.bool u.k) (.int .i64 u.n) (.int .i64 u.lo) (.int .i64 u.hi) (.int .i64 (up u.p)))
                unfold st6 at N9_3 Z9_3 b3
                refine hK.out _ _ (HS.out _ b3.out) (fun hH3 => ?_)
                clear hK K c0 f0 c1 f1 c2 f2 c3 f3 c4 f4 c5 f5
                obtain ⟨w3, hw3⟩ : ∃ z9, z9 = (((((w2.setCell ⟨n9, 0, none⟩ (.int .i64 (up u.s))).setCell ⟨n9, 1, none⟩ (.bool u.k)).setCell ⟨n9, 2, none⟩ (.int .i64 u.n)).setCell ⟨n9, 3, none⟩ (.int .i64 u.lo)).setCell ⟨n9, 4, none⟩ (.int .i64 u.hi)).setCell ⟨n9, 5, none⟩ (.int .i64 (up u.p)) := ⟨_, rfl⟩
                rw [← hw3] at hH3 b3 N9_3 Z9_3 ⊢
                clear hw3
                refine wpAnyH_done (by kernel_rfl) ?_ _
                go_wp2_with fail
                go_meet
                case rel => exact ⟨rfl, _, rfl, b3.out, N9_3, Z9_3, nk.out⟩
          · go_simp
            have hb1 : Below w0.heap.size w0 (w0.alloc (.cells #[.int .i64 0, .bool false, .int .i64 0, .int .i64 0, .int .i64 0, .int .i64 0] 48)) := (Below.refl _ _).alloc (Nat.le_refl _) _
            have b1 := hide (b0.out.trans (hb1.mono b0.out.size))
            have N9_1 := Br.new w0 0 false 0 0 0 0 48
            have Z9_1 := Fz.new w0 0 false 0 0 0 0 48
            have nk := hide b0.out.size
            refine hK.out _ _ (HS.out _ b1.out) (fun hH1 => ?_)
            clear hK K hb1
            obtain ⟨w1, hw1⟩ : ∃ z9, z9 = (w0.alloc (.cells #[.int .i64 0, .bool false, .int .i64 0, .int .i64 0, .int .i64 0, .int .i64 0] 48)) := ⟨_, rfl⟩
            rw [← hw1] at hH1 b1 N9_1 Z9_1 ⊢
            clear hw1
            generalize w0.heap.size = n9 at *
            refine wpAnyH_ready (rs := [10]) (by kernel_rfl) (by simp) ?_
            refine AllReadyH.cons (o := ({ dst := some 41, op := Op.call { callee := Callee.value (Operand.func 92), args := #[Operand.tmp 35, Operand.tmp 40], argTypes := #[48, 48] }, type := 48, pos := _, after := _, guard := _ } : Oper)) rfl (fun K hK => ?_) AllReadyH.nil
            · go_simp
              go_at_call 92
              refine (cG _).mono ?_
              rintro e w2 ⟨rfl, hb2⟩
              have b2 := hide (b1.out.trans (hb2.mono b1.out.size))
              have N9_2 := N9_1.keep hb2
              have Z9_2 := Z9_1.keep N9_1.lt hb2
              refine hK.out _ _ (HS.out _ b2.out) (fun hH2 => ?_)
              clear hK K hb2
              refine wpAnyH_ready (rs := [12]) (by kernel_rfl) (by simp) ?_
              refine AllReadyH.cons (o := ({ dst := none, op := Op.store 48 (Operand.tmp 9) (Operand.tmp 41), type := 0, pos := _, after := _, guard := _ } : Oper)) rfl (fun K hK => ?_) AllReadyH.nil
              · have c0 := N9_2.c0
                have c1 := N9_2.c1
                have c2 := N9_2.c2
                have c3 := N9_2.c3
                have c4 := N9_2.c4
                have c5 := N9_2.c5
                have f0 := Z9_2.f0
                have f1 := Z9_2.f1
                have f2 := Z9_2.f2
                have f3 := Z9_2.f3
                have f4 := Z9_2.f4
                have f5 := Z9_2.f5
                go_simp
                have N9_3 := N9_2.wrote (up u.s) u.k u.n u.lo u.hi (up u.p)
                have Z9_3 := Z9_2.put (q := n9) (.int .i64 (up u.s)) (.bool u.k) (.int .i64 u.n) (.int .i64 u.lo) (.int .i64 u.hi) (.int .i64 (up u.p))
                have b3 := hide (st6_below b2.out n9 nk.out (.int .i64 (up u.s)) (.bool u.k) (.int .i64 u.n) (.int .i64 u.lo) (.int .i64 u.hi) (.int .i64 (up u.p)))
                unfold st6 at N9_3 Z9_3 b3
                refine hK.out _ _ (HS.out _ b3.out) (fun hH3 => ?_)
                clear hK K c0 f0 c1 f1 c2 f2 c3 f3 c4 f4 c5 f5
                obtain ⟨w3, hw3⟩ : ∃ z9, z9 = (((((w2.setCell ⟨n9, 0, none⟩ (.int .i64 (up u.s))).setCell ⟨n9, 1, none⟩ (.bool u.k)).setCell ⟨n9, 2, none⟩ (.int .i64 u.n)).setCell ⟨n9, 3, none⟩ (.int .i64 u.lo)).setCell ⟨n9, 4, none⟩ (.int .i64 u.hi)).setCell ⟨n9, 5, none⟩ (.int .i64 (up u.p)) := ⟨_, rfl⟩
                rw [← hw3] at hH3 b3 N9_3 Z9_3 ⊢
                clear hw3
                refine wpAnyH_done (by kernel_rfl) ?_ _
                go_wp2_with fail
                go_meet
                case rel => exact ⟨rfl, _, rfl, b3.out, N9_3, Z9_3, nk.out⟩
      case rest =>
        obtain ⟨rfl, n9, rfl, hW11⟩ := hcut
        go_upto_region 12 with fail
        go_name_world W12 hW12
        rw [hW12] at hW11
        clear hW12 HS H6
        have HB12 : Hid (Bo w W12 q0 q1 q5 q2 (.slice (some ⟨b1, o1, none⟩) us.length c) (.slice (some ⟨b6, o6, none⟩) ss.length d) (.slice (some ⟨b3, o3, none⟩) us2.length c2) (.slice (some ⟨b7, o7, none⟩) ss2.length d2) ⟨true, pv, ts⟩ va sa es) := hide (HBo.out.keep hW11.out.1)
        clear HBo
        have NB : Hid (B6 W12 n9 0 u.raw) := hide (Br.b6v hW11.out.2.1)
        clear hW11
        have e1 := HB12.out.lo.bx.c1
        have g0 := NB.out.c0
        have g1 := NB.out.c1
        have g2 := NB.out.c2
        have g3 := NB.out.c3
        have g4 := NB.out.c4
        have g5 := NB.out.c5
        have LA := hide (HB12.out.lo.of ((Below.refl _ _).alloc (Nat.le_refl _) (.cells #[.int .i64 (up u.s), .bool u.k, .int .i64 u.n, .int .i64 u.lo, .int .i64 u.hi, .int .i64 (up u.p)] 48)))
        have bA : Hid (Below q2 W12 (W12.alloc (.cells #[.int .i64 (up u.s), .bool u.k, .int .i64 u.n, .int .i64 u.lo, .int .i64 u.hi, .int .i64 (up u.p)] 48))) := (Below.refl _ _).alloc (Nat.le_of_lt HB12.out.lo.bx.lt) _
        go_upto_region 13 with (at_builtin; refine wpList_appV W12 (q2 + 1) 22 48 Try.underlying22 info48p rfl (.tmp 55) (.tmp 57) rfl _ pv u.raw HB12.out.lo.ov rfl rfl hlv (Nat.succ_le_of_lt HB12.out.lo.bx.lt) ?_; intro a9 c9 w9 hO hg; have zb := LA.out.boxV hg; have z0 := zb.1.c0; have z1 := zb.1.c1; have z2 := zb.1.c2; have y0 := zb.2.f0; have y1 := zb.2.f1; have y2 := zb.2.f2; replace hO := hide hO; replace hg := hide hg; clear zb e1)
        go_name_world W13 hW13
        have L13 : Hid (Lo W13 (q2 + 1) q2 48 ⟨true, pv ++ [u.raw], ts⟩ (.slice a9 (pv.length + 1) c9) sa es) := by unfold Hid; rw [← hW13]; exact LA.out.appV (by decide) (by decide) hO.out hg.out
        have b13 : Hid (Below q2 W12 W13) := by unfold Hid; rw [← hW13]; exact (LA.out.belV bA.out hg.out).setCell (p := ⟨q2, 1, none⟩) (Nat.le_refl _) _
        obtain ⟨tv, htv⟩ : ∃ z9, z9 = pv ++ [u.raw] := ⟨_, rfl⟩
        rw [← htv] at HT1 L13
        generalize (Value.slice a9 (pv.length + 1) c9) = va3 at *
        have HBo : Hid (Bo w W13 q0 q1 q5 q2 (.slice (some ⟨b1, o1, none⟩) us.length c) (.slice (some ⟨b6, o6, none⟩) ss.length d) (.slice (some ⟨b3, o3, none⟩) us2.length c2) (.slice (some ⟨b7, o7, none⟩) ss2.length d2) ⟨true, tv, ts⟩ va3 sa es) := hide (HB12.out.put FQ.out.1 FQ.out.2.1 FQ.out.2.2.1 FQ.out.2.2.2.1 b13.out L13.out)
        clear hW13 LA bA hO hg z0 z1 z2 y0 y1 y2 g0 g1 g2 g3 g4 g5 HB12 NB L13 b13 htv
        have HI : Hid (∀ w', Below q2 W13 w' → Ri w' ai l) := hide (fun w' h => H7.out.2.1.keep' (HBo.out.bel.trans (h.mono FQ.out.2.2.2.1)))
        have HJ : Hid (∀ w', Below q2 W13 w' → Ri w' aj m) := hide (fun w' h => H7.out.2.2.2.keep' (HBo.out.bel.trans (h.mono FQ.out.2.2.2.1)))
        have HS : Hid (∀ w', Below q2 W13 w' → (w'.cell? ⟨q0, 2, none⟩ = some (.slice (some ⟨b6, o6, none⟩) ss.length d) ∧ w'.cell? ⟨q1, 2, none⟩ = some (.slice (some ⟨b7, o7, none⟩) ss2.length d2) ∧ w'.cell? ⟨b6, o6 + k, none⟩ = some (.slice ai l.length ci) ∧ w'.cell? ⟨b7, o7 + k, none⟩ = some (.slice aj m.length cj))) := hide (fun w' h => by
          have u := HBo.out.bel.trans (h.mono FQ.out.2.2.2.1)
          exact ⟨(h.cell (p := ⟨q0, 2, none⟩) FQ.out.1).trans HBo.out.b0.c2, (h.cell (p := ⟨q1, 2, none⟩) FQ.out.2.1).trans HBo.out.b1.c2, (u.cell (p := ⟨b6, o6 + k, none⟩) (World.block_lt_of_cell? w _ H7.out.1)).trans H7.out.1, (u.cell (p := ⟨b7, o7 + k, none⟩) (World.block_lt_of_cell? w _ H7.out.2.2.1)).trans H7.out.2.2.1⟩)
        refine wp_region_held_drew (S := fun w' => w'.cell? ⟨q0, 2, none⟩ = some (.slice (some ⟨b6, o6, none⟩) ss.length d) ∧ w'.cell? ⟨q1, 2, none⟩ = some (.slice (some ⟨b7, o7, none⟩) ss2.length d2) ∧ w'.cell? ⟨b6, o6 + k, none⟩ = some (.slice ai l.length ci) ∧ w'.cell? ⟨b7, o7 + k, none⟩ = some (.slice aj m.length cj)) (by kernel_rfl) (HS.out _ (Below.refl _ _).drew) (fun hH0 => ?_)
        obtain ⟨w0, hw0⟩ : ∃ w0, w0 = W13.drew := ⟨_, rfl⟩
        (try rw [← hw0] at hH0)
        rw [← hw0]
        have L0 : Hid (Lo w0 (q2 + 1) q2 48 ⟨true, tv, ts⟩ va3 sa es) := hw0 ▸ hide (HBo.out.lo.of (Below.refl _ _).drew)
        have b0 : Hid (Below q2 W13 w0) := hw0 ▸ hide (Below.refl _ _).drew
        clear hw0
        refine wpAnyH_take (i := 0) (oi := ({ dst := some 60, op := Op.fieldAddr 25 (Operand.tmp 7) 2, type := 0, pos := _, after := _, guard := _ } : Oper)) (v := ?_) rfl (by kernel_rfl) (by kernel_rfl) (by kernel_rfl) (fun _ _ _ h => h) (Or.inl ⟨by rfl, ?_⟩) (by assumption) ?_
        rotate_left
        · (intro wz hSw; (try dsimp only at hSw); go_simp; try with_reducible rfl)
        simp only [Act.put, List.setIfInBounds_toArray, List.set_cons_zero, List.set_cons_succ]
        refine wpAnyH_take (i := 3) (oi := ({ dst := some 63, op := Op.fieldAddr 25 (Operand.tmp 3) 2, type := 0, pos := _, after := _, guard := _ } : Oper)) (v := ?_) rfl (by kernel_rfl) (by kernel_rfl) (by kernel_rfl) (fun _ _ _ h => h) (Or.inl ⟨by rfl, ?_⟩) (by assumption) ?_
        rotate_left
        · (intro wz hSw; (try dsimp only at hSw); go_simp; try with_reducible rfl)
        simp only [Act.put, List.setIfInBounds_toArray, List.set_cons_zero, List.set_cons_succ]
        refine wpAnyH_take (i := 4) (oi := ({ dst := some 64, op := Op.load 23 (Operand.tmp 63), type := 23, pos := _, after := _, guard := _ } : Oper)) (v := ?_) rfl (by kernel_rfl) (by kernel_rfl) (by kernel_rfl) (fun _ _ _ h => h) (Or.inl ⟨by rfl, ?_⟩) (by assumption) ?_
        rotate_left
        · (intro wz hSw; (try dsimp only at hSw); go_simp; try with_reducible rfl)
        simp only [Act.put, List.setIfInBounds_toArray, List.set_cons_zero, List.set_cons_succ]
        refine wpAnyH_take (i := 5) (oi := ({ dst := some 65, op := Op.move (Operand.tmp 8), type := 3, pos := _, after := _, guard := _ } : Oper)) (v := ?_) rfl (by kernel_rfl) (by kernel_rfl) (by kernel_rfl) (fun _ _ _ h => h) (Or.inl ⟨by rfl, ?_⟩) (by assumption) ?_
        rotate_left
        · (intro wz hSw; (try dsimp only at hSw); go_simp; try with_reducible rfl)
        simp only [Act.put, List.setIfInBounds_toArray, List.set_cons_zero, List.set_cons_succ]
        refine wpAnyH_take (i := 6) (oi := ({ dst := some 66, op := Op.indexAddr 23 (Operand.tmp 64) (Operand.tmp 65), type := 0, pos := _, after := _, guard := _ } : Oper)) (v := ?_) rfl (by kernel_rfl) (by kernel_rfl) (by kernel_rfl) (fun _ _ _ h => h) (Or.inl ⟨by rfl, ?_⟩) (by assumption) ?_
        rotate_left
        · (intro wz hSw; (try dsimp only at hSw); go_simp; try with_reducible rfl)
        simp only [Act.put, List.setIfInBounds_toArray, List.set_cons_zero, List.set_cons_succ]
        refine wpAnyH_take (i := 7) (oi := ({ dst := some 67, op := Op.load 38 (Operand.tmp 66), type := 38, pos := _, after := _, guard := _ } : Oper)) (v := ?_) rfl (by kernel_rfl) (by kernel_rfl) (by kernel_rfl) (fun _ _ _ h => h) (Or.inl ⟨by rfl, ?_⟩) (by assumption) ?_
        rotate_left
        · (intro wz hSw; (try dsimp only at hSw); go_simp; try with_reducible rfl)
        simp only [Act.put, List.setIfInBounds_toArray, List.set_cons_zero, List.set_cons_succ]
        refine wpAnyH_take (i := 9) (oi := ({ dst := some 69, op := Op.fieldAddr 25 (Operand.tmp 4) 2, type := 0, pos := _, after := _, guard := _ } : Oper)) (v := ?_) rfl (by kernel_rfl) (by kernel_rfl) (by kernel_rfl) (fun _ _ _ h => h) (Or.inl ⟨by rfl, ?_⟩) (by assumption) ?_
        rotate_left
        · (intro wz hSw; (try dsimp only at hSw); go_simp; try with_reducible rfl)
        simp only [Act.put, List.setIfInBounds_toArray, List.set_cons_zero, List.set_cons_succ]
        refine wpAnyH_take (i := 10) (oi := ({ dst := some 70, op := Op.load 23 (Operand.tmp 69), type := 23, pos := _, after := _, guard := _ } : Oper)) (v := ?_) rfl (by kernel_rfl) (by kernel_rfl) (by kernel_rfl) (fun _ _ _ h => h) (Or.inl ⟨by rfl, ?_⟩) (by assumption) ?_
        rotate_left
        · (intro wz hSw; (try dsimp only at hSw); go_simp; try with_reducible rfl)
        simp only [Act.put, List.setIfInBounds_toArray, List.set_cons_zero, List.set_cons_succ]
        refine wpAnyH_take (i := 11) (oi := ({ dst := some 71, op := Op.move (Operand.tmp 8), type := 3, pos := _, after := _, guard := _ } : Oper)) (v := ?_) rfl (by kernel_rfl) (by kernel_rfl) (by kernel_rfl) (fun _ _ _ h => h) (Or.inl ⟨by rfl, ?_⟩) (by assumption) ?_
        rotate_left
        · (intro wz hSw; (try dsimp only at hSw); go_simp; try with_reducible rfl)
        simp only [Act.put, List.setIfInBounds_toArray, List.set_cons_zero, List.set_cons_succ]
        refine wpAnyH_take (i := 12) (oi := ({ dst := some 72, op := Op.indexAddr 23 (Operand.tmp 70) (Operand.tmp 71), type := 0, pos := _, after := _, guard := _ } : Oper)) (v := ?_) rfl (by kernel_rfl) (by kernel_rfl) (by kernel_rfl) (fun _ _ _ h => h) (Or.inl ⟨by rfl, ?_⟩) (by assumption) ?_
        rotate_left
        · (intro wz hSw; (try dsimp only at hSw); go_simp; try with_reducible rfl)
        simp only [Act.put, List.setIfInBounds_toArray, List.set_cons_zero, List.set_cons_succ]
        refine wpAnyH_take (i := 13) (oi := ({ dst := some 73, op := Op.load 38 (Operand.tmp 72), type := 38, pos := _, after := _, guard := _ } : Oper)) (v := ?_) rfl (by kernel_rfl) (by kernel_rfl) (by kernel_rfl) (fun _ _ _ h => h) (Or.inl ⟨by rfl, ?_⟩) (by assumption) ?_
        rotate_left
        · (intro wz hSw; (try dsimp only at hSw); go_simp; try with_reducible rfl)
        simp only [Act.put, List.setIfInBounds_toArray, List.set_cons_zero, List.set_cons_succ]
        refine wpAnyH_ready (rs := [1, 2]) (by kernel_rfl) (by simp) ?_
        refine AllReadyH.cons (o := ({ dst := some 61, op := Op.load 23 (Operand.tmp 60), type := 23, pos := _, after := _, guard := _ } : Oper)) rfl (fun K hK => ?_) (AllReadyH.cons (o := ({ dst := some 62, op := Op.buildSlice 38 0 #[], type := 38, pos := _, after := _, guard := _ } : Oper)) rfl (fun K hK => ?_) AllReadyH.nil)
        · have zc := L0.out.bx.c2
          go_simp
          refine hK.out _ _ hH0 (fun _ => ?_)
          clear hK K zc
          refine wpAnyH_ready (rs := [2]) (by kernel_rfl) (by simp) ?_
          refine AllReadyH.cons (o := ({ dst := some 62, op := Op.buildSlice 38 0 #[], type := 38, pos := _, after := _, guard := _ } : Oper)) rfl (fun K hK => ?_) AllReadyH.nil
          · go_simp
            have hb1 : Below w0.heap.size w0 (w0.alloc (.cells #[] 3)) := (Below.refl _ _).alloc (Nat.le_refl _) _
            have L1 := hide (L0.out.of hb1)
            have b1 := hide (b0.out.trans (hb1.mono (Nat.le_of_lt L0.out.bx.lt)))
            have E1 := hide (St.lit0 w0)
            refine hK.out _ _ (HS.out _ b1.out) (fun hH1 => ?_)
            clear hK K hb1
            obtain ⟨w1, hw1⟩ : ∃ z9, z9 = (w0.alloc (.cells #[] 3)) := ⟨_, rfl⟩
            rw [← hw1] at hH1 L1 b1 E1 ⊢
            clear hw1
            obtain ⟨ne, hne⟩ : ∃ z9, z9 = w0.heap.size := ⟨_, rfl⟩
            rw [← hne] at E1 ⊢
            replace hne := hide hne
            refine wpAnyH_ready (rs := [8]) (by kernel_rfl) (by simp) ?_
            refine AllReadyH.cons (o := ({ dst := some 68, op := Op.call { callee := Callee.builtin Builtin.append, args := #[Operand.tmp 62, Operand.tmp 67], argTypes := #[38, 38] }, type := 38, pos := _, after := _, guard := _ } : Oper)) rfl (fun K hK => ?_) AllReadyH.nil
            · refine wp_appY w0 w1 (.tmp 62) (.tmp 67) rfl _ [] E1.out rfl ai ci l rfl (HI.out _ b1.out) HNl.out (by have := HLM.out; simp; omega) ?_
              intro a2 c2 w2 hO2 hg2
              have L2 := hide (L0.out.of hO2.bel)
              have b2 := hide (b0.out.trans (hO2.bel.mono (Nat.le_of_lt L0.out.bx.lt)))
              simp only [List.length_nil, Nat.zero_add, List.nil_append] at hO2 ⊢
              have E2 := hide hO2
              refine hK.out _ _ (HS.out _ b2.out) (fun hH2 => ?_)
              clear hK K hO2 hg2 E1
              refine wpAnyH_ready (rs := [14]) (by kernel_rfl) (by simp) ?_
              refine AllReadyH.cons (o := ({ dst := some 74, op := Op.call { callee := Callee.builtin Builtin.append, args := #[Operand.tmp 68, Operand.tmp 73], argTypes := #[38, 38] }, type := 38, pos := _, after := _, guard := _ } : Oper)) rfl (fun K hK => ?_) AllReadyH.nil
              · refine wp_appY w0 w2 (.tmp 68) (.tmp 73) rfl _ l E2.out rfl aj cj m rfl (HJ.out _ b2.out) HNm.out (by have := HLM.out; simp; omega) ?_
                intro a3 c3 w3 hO3 hg3
                have L3 := hide (L0.out.of hO3.bel)
                have b3 := hide (b0.out.trans (hO3.bel.mono (Nat.le_of_lt L0.out.bx.lt)))
                have E3 := hide hO3
                refine hK.out _ _ (HS.out _ b3.out) (fun hH3 => ?_)
                clear hK K hO3 hg3 E2
                refine wpAnyH_ready (rs := [15]) (by kernel_rfl) (by simp) ?_
                refine AllReadyH.cons (o := ({ dst := some 75, op := Op.call { callee := Callee.value (Operand.func 76), args := #[Operand.tmp 74], argTypes := #[38] }, type := 38, pos := _, after := _, guard := _ } : Oper)) rfl (fun K hK => ?_) AllReadyH.nil
                · have HLe : (l ++ m).length ≤ 100000 := by have := HLM.out; simp; omega
                  have cR := rise_any (l ++ m) a3 c3 w3 E3.out.ri HLe
                  rw [List.length_append] at cR
                  go_simp
                  go_at_call 76
                  refine cR.mono ?_
                  rintro e w4 ⟨v9, out, rfl, hS, hU, hM, hLn⟩
                  obtain rfl : out = uniL l m := hU.ext (uni_up l m HUP.out.1 HUP.out.2) (fun y => by rw [hM, uni_mem, List.mem_append])
                  obtain ⟨ax, cx, rfl⟩ := hS.slice
                  have hb4 := hS.bel
                  have L4 := hide (L3.out.of hb4)
                  have b4 := hide (b3.out.trans (hb4.mono (Nat.le_of_lt L3.out.bx.lt)))
                  have I4 := hide (hS.owi (Nat.succ_le_of_lt L3.out.bx.lt))
                  refine hK.out _ _ (HS.out _ b4.out) (fun hH4 => ?_)
                  clear hK K hb4 hS hU hM hLn HLe cR E3
                  refine wpAnyH_ready (rs := [16]) (by kernel_rfl) (by simp) ?_
                  refine AllReadyH.cons (o := ({ dst := some 76, op := Op.buildSlice 23 1 #[(0, Operand.tmp 75)], type := 23, pos := _, after := _, guard := _ } : Oper)) rfl (fun K hK => ?_) AllReadyH.nil
                  · go_simp
                    have hb5 : Below w4.heap.size w4 (w4.alloc (.cells #[(.slice ax (uniL l m).length cx)] 38)) := (Below.refl _ _).alloc (Nat.le_refl _) _
                    have L5 := hide (L4.out.of hb5)
                    have b5 := hide (b4.out.trans (hb5.mono (Nat.le_of_lt L4.out.bx.lt)))
                    have I5 := hide (I4.out.keep hb5)
                    have Y5 := hide (C1.new w4 (.slice ax (uniL l m).length cx) 38)
                    refine hK.out _ _ (HS.out _ b5.out) (fun hH5 => ?_)
                    clear hK K hb5
                    obtain ⟨w5, hw5⟩ : ∃ z9, z9 = (w4.alloc (.cells #[(.slice ax (uniL l m).length cx)] 38)) := ⟨_, rfl⟩
                    rw [← hw5] at hH5 L5 b5 Y5 I5 ⊢
                    clear hw5
                    generalize w4.heap.size = nc at *
                    refine wpAnyH_ready (rs := [17]) (by kernel_rfl) (by simp) ?_
                    refine AllReadyH.cons (o := ({ dst := some 77, op := Op.call { callee := Callee.builtin Builtin.append, args := #[Operand.tmp 61, Operand.tmp 76], argTypes := #[23, 23] }, type := 23, pos := _, after := _, guard := _ } : Oper)) rfl (fun K hK => ?_) AllReadyH.nil
                    · refine wp_appR' w5 (q2 + 1) (.tmp 61) (.tmp 76) rfl _ es (.slice ax (uniL l m).length cx) nc rfl L5.out.os Y5.out.c rfl rfl ?_ (Nat.succ_le_of_lt L5.out.bx.lt) ?_
                      · (have t1 := L5.out.inn.1; have t2 := HTL.out; dsimp only at t1; omega)
                      intro a6 c6 w6 hO6 hg6
                      have b6 := hide (L5.out.belR b5.out hg6)
                      refine hK.out _ _ (HS.out _ b6.out) (fun hH6 => ?_)
                      clear hK K
                      replace hO6 := hide hO6
                      replace hg6 := hide hg6
                      refine wpAnyH_take (i := 18) (oi := ({ dst := some 78, op := Op.fieldAddr 25 (Operand.tmp 7) 2, type := 0, pos := _, after := _, guard := _ } : Oper)) (v := ?_) rfl (by kernel_rfl) (by kernel_rfl) (by kernel_rfl) (fun _ _ _ h => h) (Or.inl ⟨by rfl, ?_⟩) (by assumption) ?_
                      rotate_left
                      · (intro wz hSw; (try dsimp only at hSw); go_simp; try with_reducible rfl)
                      simp only [Act.put, List.setIfInBounds_toArray, List.set_cons_zero, List.set_cons_succ]
                      refine wpAnyH_ready (rs := [19]) (by kernel_rfl) (by simp) ?_
                      refine AllReadyH.cons (o := ({ dst := none, op := Op.store 23 (Operand.tmp 78) (Operand.tmp 77), type := 0, pos := _, after := _, guard := _ } : Oper)) rfl (fun K hK => ?_) AllReadyH.nil
                      · have zb := (L5.out.boxR hg6.out).1
                        have zf := (L5.out.boxR hg6.out).2
                        have z0 := zb.c0
                        have z1 := zb.c1
                        have z2 := zb.c2
                        have y0 := zf.f0
                        have y1 := zf.f1
                        have y2 := zf.f2
                        clear zb zf
                        go_simp
                        have L7 := hide (L5.out.appR (by decide) I5.out hO6.out hg6.out)
                        have b7 := hide (b6.out.setCell (p := ⟨q2, 2, none⟩) (Nat.le_refl _) (.slice a6 (es.length + 1) c6))
                        refine hK.out _ _ (HS.out _ b7.out) (fun hH7 => ?_)
                        clear hK K z0 z1 z2 y0 y1 y2
                        obtain ⟨w7, hw7⟩ : ∃ z9, z9 = w6.setCell ⟨q2, 2, none⟩ (.slice a6 (es.length + 1) c6) := ⟨_, rfl⟩
                        rw [← hw7] at hH7 L7 b7  ⊢
                        clear hw7
                        refine wpAnyH_done (by kernel_rfl) ?_ _
                        clear HS
                        have LZ := L7.out
                        rw [← HT1.out, ← HT2.out] at LZ
                        have LZ2 := hide LZ
                        clear LZ
                        go_wp2_with fail
                        exact ⟨⟨k + 1, _, _, _, by simp, by omega, HBo.out.put FQ.out.1 FQ.out.2.1 FQ.out.2.2.1 FQ.out.2.2.2.1 b7.out LZ2.out⟩, by simp [intOf]; omega⟩
        · go_simp
          have hb1 : Below w0.heap.size w0 (w0.alloc (.cells #[] 3)) := (Below.refl _ _).alloc (Nat.le_refl _) _
          have L1 := hide (L0.out.of hb1)
          have b1 := hide (b0.out.trans (hb1.mono (Nat.le_of_lt L0.out.bx.lt)))
          have E1 := hide (St.lit0 w0)
          refine hK.out _ _ (HS.out _ b1.out) (fun hH1 => ?_)
          clear hK K hb1
          obtain ⟨w1, hw1⟩ : ∃ z9, z9 = (w0.alloc (.cells #[] 3)) := ⟨_, rfl⟩
          rw [← hw1] at hH1 L1 b1 E1 ⊢
          clear hw1
          obtain ⟨ne, hne⟩ : ∃ z9, z9 = w0.heap.size := ⟨_, rfl⟩
          rw [← hne] at E1 ⊢
          replace hne := hide hne
          refine wpAnyH_ready (rs := [1, 8]) (by kernel_rfl) (by simp) ?_
          refine AllReadyH.cons (o := ({ dst := some 61, op := Op.load 23 (Operand.tmp 60), type := 23, pos := _, after := _, guard := _ } : Oper)) rfl (fun K hK => ?_) (AllReadyH.cons (o := ({ dst := some 68, op := Op.call { callee := Callee.builtin Builtin.append, args := #[Operand.tmp 62, Operand.tmp 67], argTypes := #[38, 38] }, type := 38, pos := _, after := _, guard := _ } : Oper)) rfl (fun K hK => ?_) AllReadyH.nil)
          · have zc := L1.out.bx.c2
            go_simp
            refine hK.out _ _ hH1 (fun _ => ?_)
            clear hK K zc
            refine wpAnyH_ready (rs := [8]) (by kernel_rfl) (by simp) ?_
            refine AllReadyH.cons (o := ({ dst := some 68, op := Op.call { callee := Callee.builtin Builtin.append, args := #[Operand.tmp 62, Operand.tmp 67], argTypes := #[38, 38] }, type := 38, pos := _, after := _, guard := _ } : Oper)) rfl (fun K hK => ?_) AllReadyH.nil
            · refine wp_appY w0 w1 (.tmp 62) (.tmp 67) rfl _ [] E1.out rfl ai ci l rfl (HI.out _ b1.out) HNl.out (by have := HLM.out; simp; omega) ?_
              intro a2 c2 w2 hO2 hg2
              have L2 := hide (L0.out.of hO2.bel)
              have b2 := hide (b0.out.trans (hO2.bel.mono (Nat.le_of_lt L0.out.bx.lt)))
              simp only [List.length_nil, Nat.zero_add, List.nil_append] at hO2 ⊢
              have E2 := hide hO2
              refine hK.out _ _ (HS.out _ b2.out) (fun hH2 => ?_)
              clear hK K hO2 hg2 E1
              refine wpAnyH_ready (rs := [14]) (by kernel_rfl) (by simp) ?_
              refine AllReadyH.cons (o := ({ dst := some 74, op := Op.call { callee := Callee.builtin Builtin.append, args := #[Operand.tmp 68, Operand.tmp 73], argTypes := #[38, 38] }, type := 38, pos := _, after := _, guard := _ } : Oper)) rfl (fun K hK => ?_) AllReadyH.nil
              · refine wp_appY w0 w2 (.tmp 68) (.tmp 73) rfl _ l E2.out rfl aj cj m rfl (HJ.out _ b2.out) HNm.out (by have := HLM.out; simp; omega) ?_
                intro a3 c3 w3 hO3 hg3
                have L3 := hide (L0.out.of hO3.bel)
                have b3 := hide (b0.out.trans (hO3.bel.mono (Nat.le_of_lt L0.out.bx.lt)))
                have E3 := hide hO3
                refine hK.out _ _ (HS.out _ b3.out) (fun hH3 => ?_)
                clear hK K hO3 hg3 E2
                refine wpAnyH_ready (rs := [15]) (by kernel_rfl) (by simp) ?_
                refine AllReadyH.cons (o := ({ dst := some 75, op := Op.call { callee := Callee.value (Operand.func 76), args := #[Operand.tmp 74], argTypes := #[38] }, type := 38, pos := _, after := _, guard := _ } : Oper)) rfl (fun K hK => ?_) AllReadyH.nil
                · have HLe : (l ++ m).length ≤ 100000 := by have := HLM.out; simp; omega
                  have cR := rise_any (l ++ m) a3 c3 w3 E3.out.ri HLe
                  rw [List.length_append] at cR
                  go_simp
                  go_at_call 76
                  refine cR.mono ?_
                  rintro e w4 ⟨v9, out, rfl, hS, hU, hM, hLn⟩
                  obtain rfl : out = uniL l m := hU.ext (uni_up l m HUP.out.1 HUP.out.2) (fun y => by rw [hM, uni_mem, List.mem_append])
                  obtain ⟨ax, cx, rfl⟩ := hS.slice
                  have hb4 := hS.bel
                  have L4 := hide (L3.out.of hb4)
                  have b4 := hide (b3.out.trans (hb4.mono (Nat.le_of_lt L3.out.bx.lt)))
                  have I4 := hide (hS.owi (Nat.succ_le_of_lt L3.out.bx.lt))
                  refine hK.out _ _ (HS.out _ b4.out) (fun hH4 => ?_)
                  clear hK K hb4 hS hU hM hLn HLe cR E3
                  refine wpAnyH_ready (rs := [16]) (by kernel_rfl) (by simp) ?_
                  refine AllReadyH.cons (o := ({ dst := some 76, op := Op.buildSlice 23 1 #[(0, Operand.tmp 75)], type := 23, pos := _, after := _, guard := _ } : Oper)) rfl (fun K hK => ?_) AllReadyH.nil
                  · go_simp
                    have hb5 : Below w4.heap.size w4 (w4.alloc (.cells #[(.slice ax (uniL l m).length cx)] 38)) := (Below.refl _ _).alloc (Nat.le_refl _) _
                    have L5 := hide (L4.out.of hb5)
                    have b5 := hide (b4.out.trans (hb5.mono (Nat.le_of_lt L4.out.bx.lt)))
                    have I5 := hide (I4.out.keep hb5)
                    have Y5 := hide (C1.new w4 (.slice ax (uniL l m).length cx) 38)
                    refine hK.out _ _ (HS.out _ b5.out) (fun hH5 => ?_)
                    clear hK K hb5
                    obtain ⟨w5, hw5⟩ : ∃ z9, z9 = (w4.alloc (.cells #[(.slice ax (uniL l m).length cx)] 38)) := ⟨_, rfl⟩
                    rw [← hw5] at hH5 L5 b5 Y5 I5 ⊢
                    clear hw5
                    generalize w4.heap.size = nc at *
                    refine wpAnyH_ready (rs := [17]) (by kernel_rfl) (by simp) ?_
                    refine AllReadyH.cons (o := ({ dst := some 77, op := Op.call { callee := Callee.builtin Builtin.append, args := #[Operand.tmp 61, Operand.tmp 76], argTypes := #[23, 23] }, type := 23, pos := _, after := _, guard := _ } : Oper)) rfl (fun K hK => ?_) AllReadyH.nil
                    · refine wp_appR' w5 (q2 + 1) (.tmp 61) (.tmp 76) rfl _ es (.slice ax (uniL l m).length cx) nc rfl L5.out.os Y5.out.c rfl rfl ?_ (Nat.succ_le_of_lt L5.out.bx.lt) ?_
                      · (have t1 := L5.out.inn.1; have t2 := HTL.out; dsimp only at t1; omega)
                      intro a6 c6 w6 hO6 hg6
                      have b6 := hide (L5.out.belR b5.out hg6)
                      refine hK.out _ _ (HS.out _ b6.out) (fun hH6 => ?_)
                      clear hK K
                      replace hO6 := hide hO6
                      replace hg6 := hide hg6
                      refine wpAnyH_take (i := 18) (oi := ({ dst := some 78, op := Op.fieldAddr 25 (Operand.tmp 7) 2, type := 0, pos := _, after := _, guard := _ } : Oper)) (v := ?_) rfl (by kernel_rfl) (by kernel_rfl) (by kernel_rfl) (fun _ _ _ h => h) (Or.inl ⟨by rfl, ?_⟩) (by assumption) ?_
                      rotate_left
                      · (intro wz hSw; (try dsimp only at hSw); go_simp; try with_reducible rfl)
                      simp only [Act.put, List.setIfInBounds_toArray, List.set_cons_zero, List.set_cons_succ]
                      refine wpAnyH_ready (rs := [19]) (by kernel_rfl) (by simp) ?_
                      refine AllReadyH.cons (o := ({ dst := none, op := Op.store 23 (Operand.tmp 78) (Operand.tmp 77), type := 0, pos := _, after := _, guard := _ } : Oper)) rfl (fun K hK => ?_) AllReadyH.nil
                      · have zb := (L5.out.boxR hg6.out).1
                        have zf := (L5.out.boxR hg6.out).2
                        have z0 := zb.c0
                        have z1 := zb.c1
                        have z2 := zb.c2
                        have y0 := zf.f0
                        have y1 := zf.f1
                        have y2 := zf.f2
                        clear zb zf
                        go_simp
                        have L7 := hide (L5.out.appR (by decide) I5.out hO6.out hg6.out)
                        have b7 := hide (b6.out.setCell (p := ⟨q2, 2, none⟩) (Nat.le_refl _) (.slice a6 (es.length + 1) c6))
                        refine hK.out _ _ (HS.out _ b7.out) (fun hH7 => ?_)
                        clear hK K z0 z1 z2 y0 y1 y2
                        obtain ⟨w7, hw7⟩ : ∃ z9, z9 = w6.setCell ⟨q2, 2, none⟩ (.slice a6 (es.length + 1) c6) := ⟨_, rfl⟩
                        rw [← hw7] at hH7 L7 b7  ⊢
                        clear hw7
                        refine wpAnyH_done (by kernel_rfl) ?_ _
                        clear HS
                        have LZ := L7.out
                        rw [← HT1.out, ← HT2.out] at LZ
                        have LZ2 := hide LZ
                        clear LZ
                        go_wp2_with fail
                        exact ⟨⟨k + 1, _, _, _, by simp, by omega, HBo.out.put FQ.out.1 FQ.out.2.1 FQ.out.2.2.1 FQ.out.2.2.2.1 b7.out LZ2.out⟩, by simp [intOf]; omega⟩
          · refine wp_appY w0 w1 (.tmp 62) (.tmp 67) rfl _ [] E1.out rfl ai ci l rfl (HI.out _ b1.out) HNl.out (by have := HLM.out; simp; omega) ?_
            intro a2 c2 w2 hO2 hg2
            have L2 := hide (L0.out.of hO2.bel)
            have b2 := hide (b0.out.trans (hO2.bel.mono (Nat.le_of_lt L0.out.bx.lt)))
            simp only [List.length_nil, Nat.zero_add, List.nil_append] at hO2 ⊢
            have E2 := hide hO2
            refine hK.out _ _ (HS.out _ b2.out) (fun hH2 => ?_)
            clear hK K hO2 hg2 E1
            refine wpAnyH_ready (rs := [1, 14]) (by kernel_rfl) (by simp) ?_
            refine AllReadyH.cons (o := ({ dst := some 61, op := Op.load 23 (Operand.tmp 60), type := 23, pos := _, after := _, guard := _ } : Oper)) rfl (fun K hK => ?_) (AllReadyH.cons (o := ({ dst := some 74, op := Op.call { callee := Callee.builtin Builtin.append, args := #[Operand.tmp 68, Operand.tmp 73], argTypes := #[38, 38] }, type := 38, pos := _, after := _, guard := _ } : Oper)) rfl (fun K hK => ?_) AllReadyH.nil)
            · have zc := L2.out.bx.c2
              go_simp
              refine hK.out _ _ hH2 (fun _ => ?_)
              clear hK K zc
              refine wpAnyH_ready (rs := [14]) (by kernel_rfl) (by simp) ?_
              refine AllReadyH.cons (o := ({ dst := some 74, op := Op.call { callee := Callee.builtin Builtin.append, args := #[Operand.tmp 68, Operand.tmp 73], argTypes := #[38, 38] }, type := 38, pos := _, after := _, guard := _ } : Oper)) rfl (fun K hK => ?_) AllReadyH.nil
              · refine wp_appY w0 w2 (.tmp 68) (.tmp 73) rfl _ l E2.out rfl aj cj m rfl (HJ.out _ b2.out) HNm.out (by have := HLM.out; simp; omega) ?_
                intro a3 c3 w3 hO3 hg3
                have L3 := hide (L0.out.of hO3.bel)
                have b3 := hide (b0.out.trans (hO3.bel.mono (Nat.le_of_lt L0.out.bx.lt)))
                have E3 := hide hO3
                refine hK.out _ _ (HS.out _ b3.out) (fun hH3 => ?_)
                clear hK K hO3 hg3 E2
                refine wpAnyH_ready (rs := [15]) (by kernel_rfl) (by simp) ?_
                refine AllReadyH.cons (o := ({ dst := some 75, op := Op.call { callee := Callee.value (Operand.func 76), args := #[Operand.tmp 74], argTypes := #[38] }, type := 38, pos := _, after := _, guard := _ } : Oper)) rfl (fun K hK => ?_) AllReadyH.nil
                · have HLe : (l ++ m).length ≤ 100000 := by have := HLM.out; simp; omega
                  have cR := rise_any (l ++ m) a3 c3 w3 E3.out.ri HLe
                  rw [List.length_append] at cR
                  go_simp
                  go_at_call 76
                  refine cR.mono ?_
                  rintro e w4 ⟨v9, out, rfl, hS, hU, hM, hLn⟩
                  obtain rfl : out = uniL l m := hU.ext (uni_up l m HUP.out.1 HUP.out.2) (fun y => by rw [hM, uni_mem, List.mem_append])
                  obtain ⟨ax, cx, rfl⟩ := hS.slice
                  have hb4 := hS.bel
                  have L4 := hide (L3.out.of hb4)
                  have b4 := hide (b3.out.trans (hb4.mono (Nat.le_of_lt L3.out.bx.lt)))
                  have I4 := hide (hS.owi (Nat.succ_le_of_lt L3.out.bx.lt))
                  refine hK.out _ _ (HS.out _ b4.out) (fun hH4 => ?_)
                  clear hK K hb4 hS hU hM hLn HLe cR E3
                  refine wpAnyH_ready (rs := [16]) (by kernel_rfl) (by simp) ?_
                  refine AllReadyH.cons (o := ({ dst := some 76, op := Op.buildSlice 23 1 #[(0, Operand.tmp 75)], type := 23, pos := _, after := _, guard := _ } : Oper)) rfl (fun K hK => ?_) AllReadyH.nil
                  · go_simp
                    have hb5 : Below w4.heap.size w4 (w4.alloc (.cells #[(.slice ax (uniL l m).length cx)] 38)) := (Below.refl _ _).alloc (Nat.le_refl _) _
                    have L5 := hide (L4.out.of hb5)
                    have b5 := hide (b4.out.trans (hb5.mono (Nat.le_of_lt L4.out.bx.lt)))
                    have I5 := hide (I4.out.keep hb5)
                    have Y5 := hide (C1.new w4 (.slice ax (uniL l m).length cx) 38)
                    refine hK.out _ _ (HS.out _ b5.out) (fun hH5 => ?_)
                    clear hK K hb5
                    obtain ⟨w5, hw5⟩ : ∃ z9, z9 = (w4.alloc (.cells #[(.slice ax (uniL l m).length cx)] 38)) := ⟨_, rfl⟩
                    rw [← hw5] at hH5 L5 b5 Y5 I5 ⊢
                    clear hw5
                    generalize w4.heap.size = nc at *
                    refine wpAnyH_ready (rs := [17]) (by kernel_rfl) (by simp) ?_
                    refine AllReadyH.cons (o := ({ dst := some 77, op := Op.call { callee := Callee.builtin Builtin.append, args := #[Operand.tmp 61, Operand.tmp 76], argTypes := #[23, 23] }, type := 23, pos := _, after := _, guard := _ } : Oper)) rfl (fun K hK => ?_) AllReadyH.nil
                    · refine wp_appR' w5 (q2 + 1) (.tmp 61) (.tmp 76) rfl _ es (.slice ax (uniL l m).length cx) nc rfl L5.out.os Y5.out.c rfl rfl ?_ (Nat.succ_le_of_lt L5.out.bx.lt) ?_
                      · (have t1 := L5.out.inn.1; have t2 := HTL.out; dsimp only at t1; omega)
                      intro a6 c6 w6 hO6 hg6
                      have b6 := hide (L5.out.belR b5.out hg6)
                      refine hK.out _ _ (HS.out _ b6.out) (fun hH6 => ?_)
                      clear hK K
                      replace hO6 := hide hO6
                      replace hg6 := hide hg6
                      refine wpAnyH_take (i := 18) (oi := ({ dst := some 78, op := Op.fieldAddr 25 (Operand.tmp 7) 2, type := 0, pos := _, after := _, guard := _ } : Oper)) (v := ?_) rfl (by kernel_rfl) (by kernel_rfl) (by kernel_rfl) (fun _ _ _ h => h) (Or.inl ⟨by rfl, ?_⟩) (by assumption) ?_
                      rotate_left
                      · (intro wz hSw; (try dsimp only at hSw); go_simp; try with_reducible rfl)
                      simp only [Act.put, List.setIfInBounds_toArray, List.set_cons_zero, List.set_cons_succ]
                      refine wpAnyH_ready (rs := [19]) (by kernel_rfl) (by simp) ?_
                      refine AllReadyH.cons (o := ({ dst := none, op := Op.store 23 (Operand.tmp 78) (Operand.tmp 77), type := 0, pos := _, after := _, guard := _ } : Oper)) rfl (fun K hK => ?_) AllReadyH.nil
                      · have zb := (L5.out.boxR hg6.out).1
                        have zf := (L5.out.boxR hg6.out).2
                        have z0 := zb.c0
                        have z1 := zb.c1
                        have z2 := zb.c2
                        have y0 := zf.f0
                        have y1 := zf.f1
                        have y2 := zf.f2
                        clear zb zf
                        go_simp
                        have L7 := hide (L5.out.appR (by decide) I5.out hO6.out hg6.out)
                        have b7 := hide (b6.out.setCell (p := ⟨q2, 2, none⟩) (Nat.le_refl _) (.slice a6 (es.length + 1) c6))
                        refine hK.out _ _ (HS.out _ b7.out) (fun hH7 => ?_)
                        clear hK K z0 z1 z2 y0 y1 y2
                        obtain ⟨w7, hw7⟩ : ∃ z9, z9 = w6.setCell ⟨q2, 2, none⟩ (.slice a6 (es.length + 1) c6) := ⟨_, rfl⟩
                        rw [← hw7] at hH7 L7 b7  ⊢
                        clear hw7
                        refine wpAnyH_done (by kernel_rfl) ?_ _
                        clear HS
                        have LZ := L7.out
                        rw [← HT1.out, ← HT2.out] at LZ
                        have LZ2 := hide LZ
                        clear LZ
                        go_wp2_with fail
                        exact ⟨⟨k + 1, _, _, _, by simp, by omega, HBo.out.put FQ.out.1 FQ.out.2.1 FQ.out.2.2.1 FQ.out.2.2.2.1 b7.out LZ2.out⟩, by simp [intOf]; omega⟩
            · refine wp_appY w0 w2 (.tmp 68) (.tmp 73) rfl _ l E2.out rfl aj cj m rfl (HJ.out _ b2.out) HNm.out (by have := HLM.out; simp; omega) ?_
              intro a3 c3 w3 hO3 hg3
              have L3 := hide (L0.out.of hO3.bel)
              have b3 := hide (b0.out.trans (hO3.bel.mono (Nat.le_of_lt L0.out.bx.lt)))
              have E3 := hide hO3
              refine hK.out _ _ (HS.out _ b3.out) (fun hH3 => ?_)
              clear hK K hO3 hg3 E2
              refine wpAnyH_ready (rs := [1, 15]) (by kernel_rfl) (by simp) ?_
              refine AllReadyH.cons (o := ({ dst := some 61, op := Op.load 23 (Operand.tmp 60), type := 23, pos := _, after := _, guard := _ } : Oper)) rfl (fun K hK => ?_) (AllReadyH.cons (o := ({ dst := some 75, op := Op.call { callee := Callee.value (Operand.func 76), args := #[Operand.tmp 74], argTypes := #[38] }, type := 38, pos := _, after := _, guard := _ } : Oper)) rfl (fun K hK => ?_) AllReadyH.nil)
              · have zc := L3.out.bx.c2
                go_simp
                refine hK.out _ _ hH3 (fun _ => ?_)
                clear hK K zc
                refine wpAnyH_ready (rs := [15]) (by kernel_rfl) (by simp) ?_
                refine AllReadyH.cons (o := ({ dst := some 75, op := Op.call { callee := Callee.value (Operand.func 76), args := #[Operand.tmp 74], argTypes := #[38] }, type := 38, pos := _, after := _, guard := _ } : Oper)) rfl (fun K hK => ?_) AllReadyH.nil
                · have HLe : (l ++ m).length ≤ 100000 := by have := HLM.out; simp; omega
                  have cR := rise_any (l ++ m) a3 c3 w3 E3.out.ri HLe
                  rw [List.length_append] at cR
                  go_simp
                  go_at_call 76
                  refine cR.mono ?_
                  rintro e w4 ⟨v9, out, rfl, hS, hU, hM, hLn⟩
                  obtain rfl : out = uniL l m := hU.ext (uni_up l m HUP.out.1 HUP.out.2) (fun y => by rw [hM, uni_mem, List.mem_append])
                  obtain ⟨ax, cx, rfl⟩ := hS.slice
                  have hb4 := hS.bel
                  have L4 := hide (L3.out.of hb4)
                  have b4 := hide (b3.out.trans (hb4.mono (Nat.le_of_lt L3.out.bx.lt)))
                  have I4 := hide (hS.owi (Nat.succ_le_of_lt L3.out.bx.lt))
                  refine hK.out _ _ (HS.out _ b4.out) (fun hH4 => ?_)
                  clear hK K hb4 hS hU hM hLn HLe cR E3
                  refine wpAnyH_ready (rs := [16]) (by kernel_rfl) (by simp) ?_
                  refine AllReadyH.cons (o := ({ dst := some 76, op := Op.buildSlice 23 1 #[(0, Operand.tmp 75)], type := 23, pos := _, after := _, guard := _ } : Oper)) rfl (fun K hK => ?_) AllReadyH.nil
                  · go_simp
                    have hb5 : Below w4.heap.size w4 (w4.alloc (.cells #[(.slice ax (uniL l m).length cx)] 38)) := (Below.refl _ _).alloc (Nat.le_refl _) _
                    have L5 := hide (L4.out.of hb5)
                    have b5 := hide (b4.out.trans (hb5.mono (Nat.le_of_lt L4.out.bx.lt)))
                    have I5 := hide (I4.out.keep hb5)
                    have Y5 := hide (C1.new w4 (.slice ax (uniL l m).length cx) 38)
                    refine hK.out _ _ (HS.out _ b5.out) (fun hH5 => ?_)
                    clear hK K hb5
                    obtain ⟨w5, hw5⟩ : ∃ z9, z9 = (w4.alloc (.cells #[(.slice ax (uniL l m).length cx)] 38)) := ⟨_, rfl⟩
                    rw [← hw5] at hH5 L5 b5 Y5 I5 ⊢
                    clear hw5
                    generalize w4.heap.size = nc at *
                    refine wpAnyH_ready (rs := [17]) (by kernel_rfl) (by simp) ?_
                    refine AllReadyH.cons (o := ({ dst := some 77, op := Op.call { callee := Callee.builtin Builtin.append, args := #[Operand.tmp 61, Operand.tmp 76], argTypes := #[23, 23] }, type := 23, pos := _, after := _, guard := _ } : Oper)) rfl (fun K hK => ?_) AllReadyH.nil
                    · refine wp_appR' w5 (q2 + 1) (.tmp 61) (.tmp 76) rfl _ es (.slice ax (uniL l m).length cx) nc rfl L5.out.os Y5.out.c rfl rfl ?_ (Nat.succ_le_of_lt L5.out.bx.lt) ?_
                      · (have t1 := L5.out.inn.1; have t2 := HTL.out; dsimp only at t1; omega)
                      intro a6 c6 w6 hO6 hg6
                      have b6 := hide (L5.out.belR b5.out hg6)
                      refine hK.out _ _ (HS.out _ b6.out) (fun hH6 => ?_)
                      clear hK K
                      replace hO6 := hide hO6
                      replace hg6 := hide hg6
                      refine wpAnyH_take (i := 18) (oi := ({ dst := some 78, op := Op.fieldAddr 25 (Operand.tmp 7) 2, type := 0, pos := _, after := _, guard := _ } : Oper)) (v := ?_) rfl (by kernel_rfl) (by kernel_rfl) (by kernel_rfl) (fun _ _ _ h => h) (Or.inl ⟨by rfl, ?_⟩) (by assumption) ?_
                      rotate_left
                      · (intro wz hSw; (try dsimp only at hSw); go_simp; try with_reducible rfl)
                      simp only [Act.put, List.setIfInBounds_toArray, List.set_cons_zero, List.set_cons_succ]
                      refine wpAnyH_ready (rs := [19]) (by kernel_rfl) (by simp) ?_
                      refine AllReadyH.cons (o := ({ dst := none, op := Op.store 23 (Operand.tmp 78) (Operand.tmp 77), type := 0, pos := _, after := _, guard := _ } : Oper)) rfl (fun K hK => ?_) AllReadyH.nil
                      · have zb := (L5.out.boxR hg6.out).1
                        have zf := (L5.out.boxR hg6.out).2
                        have z0 := zb.c0
                        have z1 := zb.c1
                        have z2 := zb.c2
                        have y0 := zf.f0
                        have y1 := zf.f1
                        have y2 := zf.f2
                        clear zb zf
                        go_simp
                        have L7 := hide (L5.out.appR (by decide) I5.out hO6.out hg6.out)
                        have b7 := hide (b6.out.setCell (p := ⟨q2, 2, none⟩) (Nat.le_refl _) (.slice a6 (es.length + 1) c6))
                        refine hK.out _ _ (HS.out _ b7.out) (fun hH7 => ?_)
                        clear hK K z0 z1 z2 y0 y1 y2
                        obtain ⟨w7, hw7⟩ : ∃ z9, z9 = w6.setCell ⟨q2, 2, none⟩ (.slice a6 (es.length + 1) c6) := ⟨_, rfl⟩
                        rw [← hw7] at hH7 L7 b7  ⊢
                        clear hw7
                        refine wpAnyH_done (by kernel_rfl) ?_ _
                        clear HS
                        have LZ := L7.out
                        rw [← HT1.out, ← HT2.out] at LZ
                        have LZ2 := hide LZ
                        clear LZ
                        go_wp2_with fail
                        exact ⟨⟨k + 1, _, _, _, by simp, by omega, HBo.out.put FQ.out.1 FQ.out.2.1 FQ.out.2.2.1 FQ.out.2.2.2.1 b7.out LZ2.out⟩, by simp [intOf]; omega⟩
              · have HLe : (l ++ m).length ≤ 100000 := by have := HLM.out; simp; omega
                have cR := rise_any (l ++ m) a3 c3 w3 E3.out.ri HLe
                rw [List.length_append] at cR
                go_simp
                go_at_call 76
                refine cR.mono ?_
                rintro e w4 ⟨v9, out, rfl, hS, hU, hM, hLn⟩
                obtain rfl : out = uniL l m := hU.ext (uni_up l m HUP.out.1 HUP.out.2) (fun y => by rw [hM, uni_mem, List.mem_append])
                obtain ⟨ax, cx, rfl⟩ := hS.slice
                have hb4 := hS.bel
                have L4 := hide (L3.out.of hb4)
                have b4 := hide (b3.out.trans (hb4.mono (Nat.le_of_lt L3.out.bx.lt)))
                have I4 := hide (hS.owi (Nat.succ_le_of_lt L3.out.bx.lt))
                refine hK.out _ _ (HS.out _ b4.out) (fun hH4 => ?_)
                clear hK K hb4 hS hU hM hLn HLe cR E3
                refine wpAnyH_ready (rs := [1, 16]) (by kernel_rfl) (by simp) ?_
                refine AllReadyH.cons (o := ({ dst := some 61, op := Op.load 23 (Operand.tmp 60), type := 23, pos := _, after := _, guard := _ } : Oper)) rfl (fun K hK => ?_) (AllReadyH.cons (o := ({ dst := some 76, op := Op.buildSlice 23 1 #[(0, Operand.tmp 75)], type := 23, pos := _, after := _, guard := _ } : Oper)) rfl (fun K hK => ?_) AllReadyH.nil)
                · have zc := L4.out.bx.c2
                  go_simp
                  refine hK.out _ _ hH4 (fun _ => ?_)
                  clear hK K zc
                  refine wpAnyH_ready (rs := [16]) (by kernel_rfl) (by simp) ?_
                  refine AllReadyH.cons (o := ({ dst := some 76, op := Op.buildSlice 23 1 #[(0, Operand.tmp 75)], type := 23, pos := _, after := _, guard := _ } : Oper)) rfl (fun K hK => ?_) AllReadyH.nil
                  · go_simp
                    have hb5 : Below w4.heap.size w4 (w4.alloc (.cells #[(.slice ax (uniL l m).length cx)] 38)) := (Below.refl _ _).alloc (Nat.le_refl _) _
                    have L5 := hide (L4.out.of hb5)
                    have b5 := hide (b4.out.trans (hb5.mono (Nat.le_of_lt L4.out.bx.lt)))
                    have I5 := hide (I4.out.keep hb5)
                    have Y5 := hide (C1.new w4 (.slice ax (uniL l m).length cx) 38)
                    refine hK.out _ _ (HS.out _ b5.out) (fun hH5 => ?_)
                    clear hK K hb5
                    obtain ⟨w5, hw5⟩ : ∃ z9, z9 = (w4.alloc (.cells #[(.slice ax (uniL l m).length cx)] 38)) := ⟨_, rfl⟩
                    rw [← hw5] at hH5 L5 b5 Y5 I5 ⊢
                    clear hw5
                    generalize w4.heap.size = nc at *
                    refine wpAnyH_ready (rs := [17]) (by kernel_rfl) (by simp) ?_
                    refine AllReadyH.cons (o := ({ dst := some 77, op := Op.call { callee := Callee.builtin Builtin.append, args := #[Operand.tmp 61, Operand.tmp 76], argTypes := #[23, 23] }, type := 23, pos := _, after := _, guard := _ } : Oper)) rfl (fun K hK => ?_) AllReadyH.nil
                    · refine wp_appR' w5 (q2 + 1) (.tmp 61) (.tmp 76) rfl _ es (.slice ax (uniL l m).length cx) nc rfl L5.out.os Y5.out.c rfl rfl ?_ (Nat.succ_le_of_lt L5.out.bx.lt) ?_
                      · (have t1 := L5.out.inn.1; have t2 := HTL.out; dsimp only at t1; omega)
                      intro a6 c6 w6 hO6 hg6
                      have b6 := hide (L5.out.belR b5.out hg6)
                      refine hK.out _ _ (HS.out _ b6.out) (fun hH6 => ?_)
                      clear hK K
                      replace hO6 := hide hO6
                      replace hg6 := hide hg6
                      refine wpAnyH_take (i := 18) (oi := ({ dst := some 78, op := Op.fieldAddr 25 (Operand.tmp 7) 2, type := 0, pos := _, after := _, guard := _ } : Oper)) (v := ?_) rfl (by kernel_rfl) (by kernel_rfl) (by kernel_rfl) (fun _ _ _ h => h) (Or.inl ⟨by rfl, ?_⟩) (by assumption) ?_
                      rotate_left
                      · (intro wz hSw; (try dsimp only at hSw); go_simp; try with_reducible rfl)
                      simp only [Act.put, List.setIfInBounds_toArray, List.set_cons_zero, List.set_cons_succ]
                      refine wpAnyH_ready (rs := [19]) (by kernel_rfl) (by simp) ?_
                      refine AllReadyH.cons (o := ({ dst := none, op := Op.store 23 (Operand.tmp 78) (Operand.tmp 77), type := 0, pos := _, after := _, guard := _ } : Oper)) rfl (fun K hK => ?_) AllReadyH.nil
                      · have zb := (L5.out.boxR hg6.out).1
                        have zf := (L5.out.boxR hg6.out).2
                        have z0 := zb.c0
                        have z1 := zb.c1
                        have z2 := zb.c2
                        have y0 := zf.f0
                        have y1 := zf.f1
                        have y2 := zf.f2
                        clear zb zf
                        go_simp
                        have L7 := hide (L5.out.appR (by decide) I5.out hO6.out hg6.out)
                        have b7 := hide (b6.out.setCell (p := ⟨q2, 2, none⟩) (Nat.le_refl _) (.slice a6 (es.length + 1) c6))
                        refine hK.out _ _ (HS.out _ b7.out) (fun hH7 => ?_)
                        clear hK K z0 z1 z2 y0 y1 y2
                        obtain ⟨w7, hw7⟩ : ∃ z9, z9 = w6.setCell ⟨q2, 2, none⟩ (.slice a6 (es.length + 1) c6) := ⟨_, rfl⟩
                        rw [← hw7] at hH7 L7 b7  ⊢
                        clear hw7
                        refine wpAnyH_done (by kernel_rfl) ?_ _
                        clear HS
                        have LZ := L7.out
                        rw [← HT1.out, ← HT2.out] at LZ
                        have LZ2 := hide LZ
                        clear LZ
                        go_wp2_with fail
                        exact ⟨⟨k + 1, _, _, _, by simp, by omega, HBo.out.put FQ.out.1 FQ.out.2.1 FQ.out.2.2.1 FQ.out.2.2.2.1 b7.out LZ2.out⟩, by simp [intOf]; omega⟩
                · go_simp
                  have hb5 : Below w4.heap.size w4 (w4.alloc (.cells #[(.slice ax (uniL l m).length cx)] 38)) := (Below.refl _ _).alloc (Nat.le_refl _) _
                  have L5 := hide (L4.out.of hb5)
                  have b5 := hide (b4.out.trans (hb5.mono (Nat.le_of_lt L4.out.bx.lt)))
                  have I5 := hide (I4.out.keep hb5)
                  have Y5 := hide (C1.new w4 (.slice ax (uniL l m).length cx) 38)
                  refine hK.out _ _ (HS.out _ b5.out) (fun hH5 => ?_)
                  clear hK K hb5
                  obtain ⟨w5, hw5⟩ : ∃ z9, z9 = (w4.alloc (.cells #[(.slice ax (uniL l m).length cx)] 38)) := ⟨_, rfl⟩
                  rw [← hw5] at hH5 L5 b5 Y5 I5 ⊢
                  clear hw5
                  generalize w4.heap.size = nc at *
                  refine wpAnyH_ready (rs := [1]) (by kernel_rfl) (by simp) ?_
                  refine AllReadyH.cons (o := ({ dst := some 61, op := Op.load 23 (Operand.tmp 60), type := 23, pos := _, after := _, guard := _ } : Oper)) rfl (fun K hK => ?_) AllReadyH.nil
                  · have zc := L5.out.bx.c2
                    go_simp
                    refine hK.out _ _ hH5 (fun _ => ?_)
                    clear hK K zc
                    refine wpAnyH_ready (rs := [17]) (by kernel_rfl) (by simp) ?_
                    refine AllReadyH.cons (o := ({ dst := some 77, op := Op.call { callee := Callee.builtin Builtin.append, args := #[Operand.tmp 61, Operand.tmp 76], argTypes := #[23, 23] }, type := 23, pos := _, after := _, guard := _ } : Oper)) rfl (fun K hK => ?_) AllReadyH.nil
                    · refine wp_appR' w5 (q2 + 1) (.tmp 61) (.tmp 76) rfl _ es (.slice ax (uniL l m).length cx) nc rfl L5.out.os Y5.out.c rfl rfl ?_ (Nat.succ_le_of_lt L5.out.bx.lt) ?_
                      · (have t1 := L5.out.inn.1; have t2 := HTL.out; dsimp only at t1; omega)
                      intro a6 c6 w6 hO6 hg6
                      have b6 := hide (L5.out.belR b5.out hg6)
                      refine hK.out _ _ (HS.out _ b6.out) (fun hH6 => ?_)
                      clear hK K
                      replace hO6 := hide hO6
                      replace hg6 := hide hg6
                      refine wpAnyH_take (i := 18) (oi := ({ dst := some 78, op := Op.fieldAddr 25 (Operand.tmp 7) 2, type := 0, pos := _, after := _, guard := _ } : Oper)) (v := ?_) rfl (by kernel_rfl) (by kernel_rfl) (by kernel_rfl) (fun _ _ _ h => h) (Or.inl ⟨by rfl, ?_⟩) (by assumption) ?_
                      rotate_left
                      · (intro wz hSw; (try dsimp only at hSw); go_simp; try with_reducible rfl)
                      simp only [Act.put, List.setIfInBounds_toArray, List.set_cons_zero, List.set_cons_succ]
                      refine wpAnyH_ready (rs := [19]) (by kernel_rfl) (by simp) ?_
                      refine AllReadyH.cons (o := ({ dst := none, op := Op.store 23 (Operand.tmp 78) (Operand.tmp 77), type := 0, pos := _, after := _, guard := _ } : Oper)) rfl (fun K hK => ?_) AllReadyH.nil
                      · have zb := (L5.out.boxR hg6.out).1
                        have zf := (L5.out.boxR hg6.out).2
                        have z0 := zb.c0
                        have z1 := zb.c1
                        have z2 := zb.c2
                        have y0 := zf.f0
                        have y1 := zf.f1
                        have y2 := zf.f2
                        clear zb zf
                        go_simp
                        have L7 := hide (L5.out.appR (by decide) I5.out hO6.out hg6.out)
                        have b7 := hide (b6.out.setCell (p := ⟨q2, 2, none⟩) (Nat.le_refl _) (.slice a6 (es.length + 1) c6))
                        refine hK.out _ _ (HS.out _ b7.out) (fun hH7 => ?_)
                        clear hK K z0 z1 z2 y0 y1 y2
                        obtain ⟨w7, hw7⟩ : ∃ z9, z9 = w6.setCell ⟨q2, 2, none⟩ (.slice a6 (es.length + 1) c6) := ⟨_, rfl⟩
                        rw [← hw7] at hH7 L7 b7  ⊢
                        clear hw7
                        refine wpAnyH_done (by kernel_rfl) ?_ _
                        clear HS
                        have LZ := L7.out
                        rw [← HT1.out, ← HT2.out] at LZ
                        have LZ2 := hide LZ
                        clear LZ
                        go_wp2_with fail
                        exact ⟨⟨k + 1, _, _, _, by simp, by omega, HBo.out.put FQ.out.1 FQ.out.2.1 FQ.out.2.2.1 FQ.out.2.2.2.1 b7.out LZ2.out⟩, by simp [intOf]; omega⟩
    · have hke : k = M := by omega
      subst hke
      by_cases hka : k < us.length
      · have hka2 : (k : Int) < us.length := by omega
        have hkb2 : ¬ (k : Int) < us2.length := by have := HM.out; omega
        go_upto_region 14 with (first | (go_at_call 51; refine (cR1 _).mono ?_; rintro e wA ⟨rfl, hA⟩; have h5 := hide (h4.out.keep hA); clear h4 e0 e1 e2 cR1 hA; have e0 := h5.out.b1.c0; have e1 := h5.out.b1.c1; have e2 := h5.out.b1.c2) | (go_at_call 51; refine (cR2 _).mono ?_; rintro e wB ⟨rfl, hB⟩; have h6 := hide (h5.out.keep hB); clear h5 e0 e1 e2 cR2 hB))
        replace h4 := h6
        clear h6
        have z1 : List.zipWith joinV (us.take k) (us2.take k) = List.zipWith joinV us us2 := by
          rw [← List.take_zipWith, List.take_of_length_le (by rw [List.length_zipWith]; have := HM.out; omega)]
        have z2 : List.zipWith uniL (ss.take k) (ss2.take k) = List.zipWith uniL ss ss2 := by
          rw [← List.take_zipWith, List.take_of_length_le (by rw [List.length_zipWith]; have := HM.out; have := HLS.out; omega)]
        rw [z1, z2] at h4
        clear z1 z2
        obtain ⟨PV, hPV⟩ : ∃ z9, z9 = (List.zipWith joinV us us2).map V.raw := ⟨_, rfl⟩
        obtain ⟨TS, hTS⟩ : ∃ z9, z9 = List.zipWith uniL ss ss2 := ⟨_, rfl⟩
        rw [← hPV, ← hTS] at h4
        have HPV := hide hPV
        have HTS := hide hTS
        clear hPV hTS
        obtain ⟨a7, c7, rfl, -, -⟩ := h4.out.lo.ov.slice
        obtain ⟨a8, c8, rfl, -, -⟩ := h4.out.lo.os.slice
        have e0 := h4.out.lo.bx.c0
        have e1 := h4.out.lo.bx.c1
        have e2 := h4.out.lo.bx.c2
        have g0 := h4.out.b5.c0
        have g1 := h4.out.b5.c1
        have g2 := h4.out.b5.c2
        have f0 := h4.out.f5.f0
        have f1 := h4.out.f5.f1
        have f2 := h4.out.f5.f2
        have G1 := hide (h4.out.lo.fin h4.out.b5 (Nat.lt_succ_of_lt FQ.out.2.2.1) (Nat.ne_of_lt FQ.out.2.2.1) h4.out.bel FQ.out.2.2.2.2)
        clear h4
        go_wp2_with fail
        have y0 := G1.out.1.c0
        have y1 := G1.out.1.c1
        have y2 := G1.out.1.c2
        clear e0 e1 e2 g0 g1 g2 f0 f1 f2
        exact bodyPost_ret (by simp [results, Try.results45, go_sem, y0, y1, y2]; try rfl) rfl ⟨_, rfl, by rw [← HTS.out, show List.zipWith (fun x y => (joinV x y).raw) us us2 = PV from by rw [HPV.out, List.map_zipWith]]; exact G1.out.2.1, G1.out.2.2⟩
      · have hka2 : ¬ (k : Int) < us.length := by omega
        go_upto_region 14 with (go_at_call 51; refine (cR1 _).mono ?_; rintro e wA ⟨rfl, hA⟩; have h5 := hide (h4.out.keep hA); clear h4 e0 e1 e2 cR1 cR2 hA)
        replace h4 := h5
        clear h5
        have z1 : List.zipWith joinV (us.take k) (us2.take k) = List.zipWith joinV us us2 := by
          rw [← List.take_zipWith, List.take_of_length_le (by rw [List.length_zipWith]; have := HM.out; omega)]
        have z2 : List.zipWith uniL (ss.take k) (ss2.take k) = List.zipWith uniL ss ss2 := by
          rw [← List.take_zipWith, List.take_of_length_le (by rw [List.length_zipWith]; have := HM.out; have := HLS.out; omega)]
        rw [z1, z2] at h4
        clear z1 z2
        obtain ⟨PV, hPV⟩ : ∃ z9, z9 = (List.zipWith joinV us us2).map V.raw := ⟨_, rfl⟩
        obtain ⟨TS, hTS⟩ : ∃ z9, z9 = List.zipWith uniL ss ss2 := ⟨_, rfl⟩
        rw [← hPV, ← hTS] at h4
        have HPV := hide hPV
        have HTS := hide hTS
        clear hPV hTS
        obtain ⟨a7, c7, rfl, -, -⟩ := h4.out.lo.ov.slice
        obtain ⟨a8, c8, rfl, -, -⟩ := h4.out.lo.os.slice
        have e0 := h4.out.lo.bx.c0
        have e1 := h4.out.lo.bx.c1
        have e2 := h4.out.lo.bx.c2
        have g0 := h4.out.b5.c0
        have g1 := h4.out.b5.c1
        have g2 := h4.out.b5.c2
        have f0 := h4.out.f5.f0
        have f1 := h4.out.f5.f1
        have f2 := h4.out.f5.f2
        have G1 := hide (h4.out.lo.fin h4.out.b5 (Nat.lt_succ_of_lt FQ.out.2.2.1) (Nat.ne_of_lt FQ.out.2.2.1) h4.out.bel FQ.out.2.2.2.2)
        clear h4
        go_wp2_with fail
        have y0 := G1.out.1.c0
        have y1 := G1.out.1.c1
        have y2 := G1.out.1.c2
        clear e0 e1 e2 g0 g1 g2 f0 f1 f2
        exact bodyPost_ret (by simp [results, Try.results45, go_sem, y0, y1, y2]; try rfl) rfl ⟨_, rfl, by rw [← HTS.out, show List.zipWith (fun x y => (joinV x y).raw) us us2 = PV from by rw [HPV.out, List.map_zipWith]]; exact G1.out.2.1, G1.out.2.2⟩
end Go.Proofs.Ytmhicllhjiglkaa
