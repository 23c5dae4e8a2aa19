import Derived.Test.YtmhicllhjiglkaaG12
import Derived.Test.YtmhicllhjiglkaaG11
import Derived.Test.YtmhicllhjiglkaaG13
import Derived.Deep.RegionHeld3
namespace Go.Proofs.Ytmhicllhjiglkaa
open Go.RowKit
theorem count_any (r : Bool) (a b : Option Addr) (n c d : Nat) (w : World) :
    Calls Try.prog 86 #[.agg #[.bool r, .slice a n c, .slice b n d]] w fun e w' => e = .returned (.int .i64 (n : Int)) ∧ Below w.heap.size w w' := by
  go_enter Try.func86, Try.ntmps86
  go_wp2
  go_ret
  exact ⟨by simp, (Below.refl _ _).alloc (Nat.le_refl _) _⟩
set_option maxRecDepth 100000 in
set_option maxHeartbeats 8000000 in
theorem together_j (a b a2 b2 : Option Addr) (c d c2 d2 : Nat) (us us2 : List V) (ss ss2 : List (List Int)) (w : World) (hv : RV w a (us.map V.raw)) (hs : RR w b ss) (hv2 : RV w a2 (us2.map V.raw)) (hs2 : RR w b2 ss2)
    (hg : ∀ u ∈ us, u.p &&& 3 = u.p) (hg2 : ∀ u ∈ us2, u.p &&& 3 = u.p) (hl : us.length ≤ 1000) (hl2 : us2.length ≤ 1000) (hls : ss.length = us.length) (hls2 : ss2.length = us2.length) (hl3 : ∀ l ∈ ss, l.length ≤ 10000) (hl4 : ∀ l ∈ ss2, l.length ≤ 10000) :
    Calls Try.prog 43 #[.agg #[.bool true, .slice a us.length c, .slice b ss.length d], .agg #[.bool true, .slice a2 us2.length c2, .slice b2 ss2.length d2], .func (.func 44) #[] #[]] w fun e w' => ∃ v, e = .returned v ∧ Rn w' w.heap.size v ⟨true, (List.zipWith joinV us us2).map V.raw, List.zipWith uniL ss ss2⟩ ∧ Below w.heap.size w w' := by
  have HV := hide hv
  have HR := hide hs
  have HV2 := hide hv2
  have HR2 := hide hs2
  have HG := hide (And.intro hg hg2)
  have HL := hide (And.intro hl3 hl4)
  have HLS := hide (And.intro hls hls2)
  have i1 : (us.length : Int) ≤ 1000 := by omega
  have i2 : (us2.length : Int) ≤ 1000 := by omega
  clear hv hs hv2 hs2 hg hg2 hl3 hl4 hls hls2
  obtain ⟨M, hM⟩ : ∃ M, M = min us.length us2.length := ⟨_, rfl⟩
  have hmin : min (us.length : Int) (us2.length : Int) = (M : Int) := by rw [hM]; omega
  have HM := hide hM
  have iM : (M : Int) ≤ 1000 := by omega
  clear hM
  go_enter Try.func43, Try.ntmps43
  go_upto_region 5 with fail
  go_name_world W0 hW0
  obtain ⟨q5, h5⟩ : ∃ z9, z9 = w.heap.size + 1 + 1 := ⟨_, rfl⟩
  rw [← h5]
  obtain ⟨q1, h1⟩ : ∃ z9, z9 = w.heap.size + 1 := ⟨_, rfl⟩
  rw [← h1]
  obtain ⟨q0, h0⟩ : ∃ z9, z9 = w.heap.size := ⟨_, rfl⟩
  rw [← h0]
  have HW0 : Hid ((Bs W0 q0 true (.slice a us.length c) (.slice b ss.length d) ∧ Bs W0 q1 true (.slice a2 us2.length c2) (.slice b2 ss2.length d2) ∧ Bs W0 q5 false (.slice none 0 0) (.slice none 0 0) ∧ Fs W0 q5) ∧ Below w.heap.size w W0) := by
    unfold Hid
    rw [h5, h1, h0]
    obtain ⟨B0, -, B1, -, B2, F2, u⟩ := boxes3 w _ _ _ _ _ _ _ _ _ _ _ _ W0 hW0
    exact ⟨⟨B0, B1, B2, F2⟩, u⟩
  have HQ : Hid (q0 < q5 ∧ q1 < q5 ∧ w.heap.size ≤ q5) := hide (by omega)
  clear hW0 h5 h1 h0
  go_upto_region 6 with fail
  go_name_world W hW
  obtain ⟨q2, hq2⟩ : ∃ z9, z9 = W0.heap.size := ⟨_, rfl⟩
  rw [← hq2]
  have HW : Hid ((Bs W q0 true (.slice a us.length c) (.slice b ss.length d) ∧ Bs W q1 true (.slice a2 us2.length c2) (.slice b2 ss2.length d2) ∧ Bs W q5 false (.slice none 0 0) (.slice none 0 0) ∧ Fs W q5) ∧ Lo W (q2 + 1) q2 53 ⟨true, [], []⟩ (.slice none 0 0) (.slice none 0 0) [] ∧ Below w.heap.size w W) := by
    unfold Hid
    rw [hq2]
    obtain ⟨B0, F0, u⟩ := box1 W0 _ _ _ _ W hW
    have t := HW0.out.1
    exact ⟨⟨t.1.keep u, t.2.1.keep u, t.2.2.1.keep u, t.2.2.2.of (u.block q5 t.2.2.1.lt)⟩, Lo.start _ B0 F0 (Nat.lt_succ_self _), HW0.out.2.trans (u.mono HW0.out.2.size)⟩
  have FQ : Hid (q0 < q2 ∧ q1 < q2 ∧ q5 < q2 ∧ w.heap.size ≤ q2 ∧ w.heap.size ≤ q5) := by
    have := HW0.out.1.2.2.1.lt
    have := HQ.out
    unfold Hid
    omega
  clear hW hq2 HW0 HQ
  have HS : Hid (∀ w', Below W.heap.size W w' → (w'.cell? ⟨q0, 0, none⟩ = some (.bool true) ∧ w'.cell? ⟨q0, 1, none⟩ = some (.slice a us.length c) ∧ w'.cell? ⟨q0, 2, none⟩ = some (.slice b ss.length d) ∧ w'.cell? ⟨q1, 0, none⟩ = some (.bool true) ∧ w'.cell? ⟨q1, 1, none⟩ = some (.slice a2 us2.length c2) ∧ w'.cell? ⟨q1, 2, none⟩ = some (.slice b2 ss2.length d2))) := fun w' h => by
    have t0 := HW.out.1.1.keep h
    have t1 := HW.out.1.2.1.keep h
    exact ⟨t0.c0, t0.c1, t0.c2, t1.c0, t1.c1, t1.c2⟩
  have cC1 : ∀ w, Calls Try.prog 86 #[.agg #[.bool true, .slice a us.length c, .slice b ss.length d]] w fun e w' => e = .returned (.int .i64 (us.length : Int)) ∧ Below w.heap.size w w' := fun w => by
    rw [HLS.out.1]; exact count_any true a b us.length c d w
  have cC2 : ∀ w, Calls Try.prog 86 #[.agg #[.bool true, .slice a2 us2.length c2, .slice b2 ss2.length d2]] w fun e w' => e = .returned (.int .i64 (us2.length : Int)) ∧ Below w.heap.size w w' := fun w => by
    rw [HLS.out.2]; exact count_any true a2 b2 us2.length c2 d2 w
  go_cut [24, 25] (fun s24 s25 wx => s24 = .int .i64 M ∧ s25 = .int .i64 0 ∧ Hid (Below W.heap.size W wx))
  case first =>
    refine wp_region_held_drew (S := fun w' => w'.cell? ⟨q0, 0, none⟩ = some (.bool true) ∧ w'.cell? ⟨q0, 1, none⟩ = some (.slice a us.length c) ∧ w'.cell? ⟨q0, 2, none⟩ = some (.slice b ss.length d) ∧ w'.cell? ⟨q1, 0, none⟩ = some (.bool true) ∧ w'.cell? ⟨q1, 1, none⟩ = some (.slice a2 us2.length c2) ∧ w'.cell? ⟨q1, 2, none⟩ = some (.slice b2 ss2.length d2)) (by kernel_rfl) (HS.out _ (Below.refl _ _).drew) (fun hH0 => ?_)
    obtain ⟨w0, hw0⟩ : ∃ w0, w0 = W.drew := ⟨_, rfl⟩
    (try rw [← hw0] at hH0)
    rw [← hw0]
    have b0 : Hid (Below W.heap.size W w0) := hw0 ▸ hide (Below.refl _ _).drew
    clear hw0
    refine wpAnyH_take (i := 0) (oi := ({ dst := some 20, op := Op.load 29 (Operand.tmp 3), type := 29, pos := "state.go:81", after := #[], guard := none } : Oper)) (v := ?_) rfl (by kernel_rfl) (by kernel_rfl) (by kernel_rfl) (fun _ _ _ h => h) (Or.inl ⟨by rfl, ?_⟩) (by assumption) ?_
    rotate_left
    · (intro wz hSw; (try dsimp only at hSw); go_simp; try with_reducible rfl)
    simp only [Act.put, List.setIfInBounds_toArray, List.set_cons_zero, List.set_cons_succ]
    refine wpAnyH_take (i := 2) (oi := ({ dst := some 22, op := Op.load 29 (Operand.tmp 4), type := 29, pos := "state.go:81", after := #[], guard := none } : Oper)) (v := ?_) rfl (by kernel_rfl) (by kernel_rfl) (by kernel_rfl) (fun _ _ _ h => h) (Or.inl ⟨by rfl, ?_⟩) (by assumption) ?_
    rotate_left
    · (intro wz hSw; (try dsimp only at hSw); go_simp; try with_reducible rfl)
    simp only [Act.put, List.setIfInBounds_toArray, List.set_cons_zero, List.set_cons_succ]
    refine wpAnyH_take (i := 5) (oi := ({ dst := some 25, op := Op.move (Operand.const (Value.int IntKind.i64 0)), type := 3, pos := "state.go:81", after := #[], guard := none } : Oper)) (v := ?_) rfl (by kernel_rfl) (by kernel_rfl) (by kernel_rfl) (fun _ _ _ h => h) (Or.inl ⟨by rfl, ?_⟩) (by assumption) ?_
    rotate_left
    · (intro wz hSw; (try dsimp only at hSw); go_simp; try with_reducible rfl)
    simp only [Act.put, List.setIfInBounds_toArray, List.set_cons_zero, List.set_cons_succ]
    refine wpAnyH_ready (rs := [1]) (by kernel_rfl) (by simp) ?_
    refine AllReadyH.cons (o := ({ dst := some 21, op := Op.call { callee := Callee.value (Operand.func 86), args := #[Operand.tmp 20], argTypes := #[29] }, type := 3, pos := "state.go:81", after := #[{ on := 0, ground := Ground.data }], guard := none } : Oper)) rfl (fun K hK => ?_) AllReadyH.nil
    · go_simp
      go_at_call 86
      refine (cC1 _).mono ?_
      rintro e w1 ⟨rfl, hb1⟩
      have b1 := hide (b0.out.trans (hb1.mono b0.out.size))
      refine hK.out _ _ (HS.out _ b1.out) (fun hH1 => ?_)
      clear hK K hb1
      refine wpAnyH_ready (rs := [3]) (by kernel_rfl) (by simp) ?_
      refine AllReadyH.cons (o := ({ dst := some 23, op := Op.call { callee := Callee.value (Operand.func 86), args := #[Operand.tmp 22], argTypes := #[29] }, type := 3, pos := "state.go:81", after := #[{ on := 2, ground := Ground.data }, { on := 1, ground := Ground.chain }], guard := none } : Oper)) rfl (fun K hK => ?_) AllReadyH.nil
      · go_simp
        go_at_call 86
        refine (cC2 _).mono ?_
        rintro e w2 ⟨rfl, hb2⟩
        have b2 := hide (b1.out.trans (hb2.mono b1.out.size))
        refine hK.out _ _ (HS.out _ b2.out) (fun hH2 => ?_)
        clear hK K hb2
        refine wpAnyH_take (i := 4) (oi := ({ dst := some 24, op := Op.call { callee := Callee.builtin Builtin.min, args := #[Operand.tmp 21, Operand.tmp 23], argTypes := #[3, 3] }, type := 3, pos := "state.go:81", after := #[{ on := 1, ground := Ground.data }, { on := 3, ground := Ground.data }], guard := none } : Oper)) (v := ?_) rfl (by kernel_rfl) (by kernel_rfl) (by kernel_rfl) (fun _ _ _ h => h) (Or.inl ⟨by rfl, ?_⟩) (by assumption) ?_
        rotate_left
        · (intro wz hSw; (try dsimp only at hSw); go_simp; try with_reducible rfl)
        simp only [Act.put, List.setIfInBounds_toArray, List.set_cons_zero, List.set_cons_succ]
        refine wpAnyH_done (by kernel_rfl) ?_ _
        go_wp2_with fail
        all_goals (go_meet; exact ⟨by congr 1; have := HM.out; omega, rfl, hide b2.out⟩)
  case rest =>
    obtain ⟨rfl, rfl, hbc⟩ := hcut
    have H1 : Hid ((Bs wc q0 true (.slice a us.length c) (.slice b ss.length d) ∧ Bs wc q1 true (.slice a2 us2.length c2) (.slice b2 ss2.length d2) ∧ Bs wc q5 false (.slice none 0 0) (.slice none 0 0) ∧ Fs wc q5) ∧ Lo wc (q2 + 1) q2 53 ⟨true, [], []⟩ (.slice none 0 0) (.slice none 0 0) [] ∧ Below w.heap.size w wc) := by
      have u := hbc.out
      have t := HW.out.1
      exact ⟨⟨t.1.keep u, t.2.1.keep u, t.2.2.1.keep u, t.2.2.2.of (u.block q5 t.2.2.1.lt)⟩, HW.out.2.1.of u, HW.out.2.2.trans (u.mono HW.out.2.2.size)⟩
    clear HS HW hbc hmin cC1 cC2
    go_wp2_with fail
    go_loopw [25] (fun s25 wr => ∃ (k : Nat) (va sa : Value) (es : List Value), s25 = .int .i64 k ∧ k ≤ M ∧ Hid ((Bs wr q0 true (.slice a us.length c) (.slice b ss.length d) ∧ Bs wr q1 true (.slice a2 us2.length c2) (.slice b2 ss2.length d2) ∧ Bs wr q5 false (.slice none 0 0) (.slice none 0 0) ∧ Fs wr q5) ∧ Lo wr (q2 + 1) q2 53 ⟨true, (List.zipWith joinV (us.take k) (us2.take k)).map V.raw, List.zipWith uniL (ss.take k) (ss2.take k)⟩ va sa es ∧ Below w.heap.size w wr)) (fun s25 _ => M - (intOf s25).toNat)
    case atStart => exact ⟨0, _, _, _, rfl, Nat.zero_le _, H1.out⟩
    case round =>
      obtain ⟨k, va, sa, es, rfl, hk, h4⟩ := hrel
      clear H1
      by_cases hkM : k < M
      · have hkM2 : (k : Int) < M := by omega
        have j1 : k < us.length := by have := HM.out; omega
        have j2 : k < us2.length := by have := HM.out; omega
        have j3 : (k : Int) < us.length := by omega
        have j4 : (k : Int) < us2.length := by omega
        have j5 : k < ss.length := by have := HLS.out; omega
        have j6 : k < ss2.length := by have := HLS.out; omega
        have j7 : (k : Int) < ss.length := by omega
        have j8 : (k : Int) < ss2.length := by omega
        obtain ⟨b1, o1, x0, hX, rfl, hx6⟩ := HV.out.at (m := k) (by rw [List.length_map]; exact j1)
        obtain ⟨b3, o3, y0, hY, rfl, hy6⟩ := HV2.out.at (m := k) (by rw [List.length_map]; exact j2)
        obtain ⟨b6, o6, l, ai, ci, hL, rfl, f1, f2, f3, f4⟩ := HR.out.at j5
        obtain ⟨b7, o7, m, aj, cj, hL2, rfl, f5, f6, f7, f8⟩ := HR2.out.at j6
        obtain ⟨x, hxk, rfl⟩ : ∃ x, us[k]? = some x ∧ x.raw = x0 := by rw [List.getElem?_map, Option.map_eq_some_iff] at hX; exact hX
        obtain ⟨y, hyk, rfl⟩ : ∃ y, us2[k]? = some y ∧ y.raw = y0 := by rw [List.getElem?_map, Option.map_eq_some_iff] at hY; exact hY
        have hxm : x ∈ us := List.mem_of_getElem? hxk
        have hym : y ∈ us2 := List.mem_of_getElem? hyk
        have HT1 : Hid ((List.zipWith joinV (us.take (k + 1)) (us2.take (k + 1))).map V.raw = (List.zipWith joinV (us.take k) (us2.take k)).map V.raw ++ [(joinV x y).raw]) := hide (by
          rw [take_more hxk, take_more hyk, List.zipWith_append (by rw [List.length_take, List.length_take]; omega), List.map_append]; rfl)
        have HT2 : Hid (List.zipWith uniL (ss.take (k + 1)) (ss2.take (k + 1)) = List.zipWith uniL (ss.take k) (ss2.take k) ++ [uniL l m]) := hide (by
          rw [take_more hL, take_more hL2, List.zipWith_append (by rw [List.length_take, List.length_take]; omega)]; rfl)
        have HLM : Hid (l.length + m.length ≤ 100000 ∧ l.length ≤ ci ∧ m.length ≤ cj ∧ (ai = none → ci = 0) ∧ (aj = none → cj = 0)) := hide ⟨by have := HL.out.1 l (List.mem_of_getElem? hL); have := HL.out.2 m (List.mem_of_getElem? hL2); omega, f3, f7, f4, f8⟩
        have cG := fun w => join_V x y w (HG.out.1 x hxm) (HG.out.2 y hym)
        generalize joinV x y = u at *
        obtain ⟨pv, hpv⟩ : ∃ z9, z9 = (List.zipWith joinV (us.take k) (us2.take k)).map V.raw := ⟨_, rfl⟩
        have hlv : pv.length ≤ 1000000 := by rw [hpv, List.length_map, List.length_zipWith, List.length_take]; omega
        obtain ⟨ts, hts⟩ : ∃ z9, z9 = List.zipWith uniL (ss.take k) (ss2.take k) := ⟨_, rfl⟩
        have HTL : Hid (ts.length ≤ 1000000) := hide (by rw [hts, List.length_zipWith, List.length_take]; omega)
        rw [← hpv, ← hts] at h4
        rw [← hpv] at HT1
        rw [← hts] at HT2
        have H6 := hide (And.intro hx6 hy6)
        have H7 := hide (And.intro f1 (And.intro f2 (And.intro f5 f6)))
        clear hX hY hx6 hy6 hL hL2 f1 f2 f3 f4 f5 f6 f7 f8 hxk hyk hxm hym hpv hts
        go_upto_region 9 with fail
        go_name_world W9 hW9
        rw [hW9] at h4
        clear hW9
        have KW : Hid (Bs W9 q0 true (.slice (some ⟨b1, o1, none⟩) us.length c) (.slice (some ⟨b6, o6, none⟩) ss.length d) ∧ Bs W9 q1 true (.slice (some ⟨b3, o3, none⟩) us2.length c2) (.slice (some ⟨b7, o7, none⟩) ss2.length d2) ∧ Bs W9 q5 false (.slice none 0 0) (.slice none 0 0) ∧ Fs W9 q5) := hide h4.out.1
        have LW := hide h4.out.2.1
        have BW := hide h4.out.2.2
        clear h4
        have HS : Hid (∀ w', Below q2 W9 w' → (w'.cell? ⟨q0, 1, none⟩ = some (.slice (some ⟨b1, o1, none⟩) us.length c) ∧ w'.cell? ⟨q1, 1, none⟩ = some (.slice (some ⟨b3, o3, none⟩) us2.length c2) ∧ w'.cell? ⟨b1, o1 + k * 6, none⟩ = some (.int .i64 (up x.s)) ∧ w'.cell? ⟨b1, o1 + k * 6 + 1, none⟩ = some (.bool x.k) ∧ w'.cell? ⟨b1, o1 + k * 6 + 2, none⟩ = some (.int .i64 x.n) ∧ w'.cell? ⟨b1, o1 + k * 6 + 3, none⟩ = some (.int .i64 x.lo) ∧ w'.cell? ⟨b1, o1 + k * 6 + 4, none⟩ = some (.int .i64 x.hi) ∧ w'.cell? ⟨b1, o1 + k * 6 + 5, none⟩ = some (.int .i64 (up x.p)) ∧ w'.cell? ⟨b3, o3 + k * 6, none⟩ = some (.int .i64 (up y.s)) ∧ w'.cell? ⟨b3, o3 + k * 6 + 1, none⟩ = some (.bool y.k) ∧ w'.cell? ⟨b3, o3 + k * 6 + 2, none⟩ = some (.int .i64 y.n) ∧ w'.cell? ⟨b3, o3 + k * 6 + 3, none⟩ = some (.int .i64 y.lo) ∧ w'.cell? ⟨b3, o3 + k * 6 + 4, none⟩ = some (.int .i64 y.hi) ∧ w'.cell? ⟨b3, o3 + k * 6 + 5, none⟩ = some (.int .i64 (up y.p)))) := fun w' h => by
          have t := H6.out.1.keep (BW.out.trans (h.mono FQ.out.2.2.2.1))
          have t2 := H6.out.2.keep (BW.out.trans (h.mono FQ.out.2.2.2.1))
          exact ⟨(h.cell (p := ⟨q0, 1, none⟩) FQ.out.1).trans KW.out.1.c1, (h.cell (p := ⟨q1, 1, none⟩) FQ.out.2.1).trans KW.out.2.1.c1, t.c0, t.c1, t.c2, t.c3, t.c4, t.c5, t2.c0, t2.c1, t2.c2, t2.c3, t2.c4, t2.c5⟩
        go_cut [8] (fun s8 wx => s8 = .int .i64 k ∧ ∃ va, Hid ((Bs wx q0 true (.slice (some ⟨b1, o1, none⟩) us.length c) (.slice (some ⟨b6, o6, none⟩) ss.length d) ∧ Bs wx q1 true (.slice (some ⟨b3, o3, none⟩) us2.length c2) (.slice (some ⟨b7, o7, none⟩) ss2.length d2) ∧ Bs wx q5 false (.slice none 0 0) (.slice none 0 0) ∧ Fs wx q5) ∧ (∃ tv, tv = pv ++ [u.raw] ∧ Lo wx (q2 + 1) q2 53 ⟨true, tv, ts⟩ va sa es) ∧ Below w.heap.size w wx))
        case first =>
          refine wp_region_held_drew (S := fun w' => w'.cell? ⟨q0, 1, none⟩ = some (.slice (some ⟨b1, o1, none⟩) us.length c) ∧ w'.cell? ⟨q1, 1, none⟩ = some (.slice (some ⟨b3, o3, none⟩) us2.length c2) ∧ w'.cell? ⟨b1, o1 + k * 6, none⟩ = some (.int .i64 (up x.s)) ∧ w'.cell? ⟨b1, o1 + k * 6 + 1, none⟩ = some (.bool x.k) ∧ w'.cell? ⟨b1, o1 + k * 6 + 2, none⟩ = some (.int .i64 x.n) ∧ w'.cell? ⟨b1, o1 + k * 6 + 3, none⟩ = some (.int .i64 x.lo) ∧ w'.cell? ⟨b1, o1 + k * 6 + 4, none⟩ = some (.int .i64 x.hi) ∧ w'.cell? ⟨b1, o1 + k * 6 + 5, none⟩ = some (.int .i64 (up x.p)) ∧ w'.cell? ⟨b3, o3 + k * 6, none⟩ = some (.int .i64 (up y.s)) ∧ w'.cell? ⟨b3, o3 + k * 6 + 1, none⟩ = some (.bool y.k) ∧ w'.cell? ⟨b3, o3 + k * 6 + 2, none⟩ = some (.int .i64 y.n) ∧ w'.cell? ⟨b3, o3 + k * 6 + 3, none⟩ = some (.int .i64 y.lo) ∧ w'.cell? ⟨b3, o3 + k * 6 + 4, none⟩ = some (.int .i64 y.hi) ∧ w'.cell? ⟨b3, o3 + k * 6 + 5, none⟩ = some (.int .i64 (up y.p))) (by kernel_rfl) (HS.out _ (Below.refl _ _).drew) (fun hH0 => ?_)
          obtain ⟨w0, hw0⟩ : ∃ w0, w0 = W9.drew := ⟨_, rfl⟩
          (try rw [← hw0] at hH0)
          rw [← hw0]
          have L0 : Hid (Lo w0 (q2 + 1) q2 53 ⟨true, pv, ts⟩ va sa es) := hw0 ▸ hide (LW.out.of (Below.refl _ _).drew)
          have b0 : Hid (Below q2 W9 w0) := hw0 ▸ hide (Below.refl _ _).drew
          clear hw0
          refine wpAnyH_take (i := 0) (oi := ({ dst := some 28, op := Op.fieldAddr 29 (Operand.tmp 7) 1, type := 0, pos := "state.go:82", after := #[], guard := none } : Oper)) (v := ?_) rfl (by kernel_rfl) (by kernel_rfl) (by kernel_rfl) (fun _ _ _ h => h) (Or.inl ⟨by rfl, ?_⟩) (by assumption) ?_
          rotate_left
          · (intro wz hSw; (try dsimp only at hSw); go_simp; try with_reducible rfl)
          simp only [Act.put, List.setIfInBounds_toArray, List.set_cons_zero, List.set_cons_succ]
          refine wpAnyH_take (i := 2) (oi := ({ dst := some 30, op := Op.move (Operand.tmp 2), type := 84, pos := "state.go:82", after := #[], guard := none } : Oper)) (v := ?_) rfl (by kernel_rfl) (by kernel_rfl) (by kernel_rfl) (fun _ _ _ h => h) (Or.inl ⟨by rfl, ?_⟩) (by assumption) ?_
          rotate_left
          · (intro wz hSw; (try dsimp only at hSw); go_simp; try with_reducible rfl)
          simp only [Act.put, List.setIfInBounds_toArray, List.set_cons_zero, List.set_cons_succ]
          refine wpAnyH_take (i := 3) (oi := ({ dst := some 31, op := Op.fieldAddr 29 (Operand.tmp 3) 1, type := 0, pos := "state.go:82", after := #[], guard := none } : Oper)) (v := ?_) rfl (by kernel_rfl) (by kernel_rfl) (by kernel_rfl) (fun _ _ _ h => h) (Or.inl ⟨by rfl, ?_⟩) (by assumption) ?_
          rotate_left
          · (intro wz hSw; (try dsimp only at hSw); go_simp; try with_reducible rfl)
          simp only [Act.put, List.setIfInBounds_toArray, List.set_cons_zero, List.set_cons_succ]
          refine wpAnyH_take (i := 4) (oi := ({ dst := some 32, op := Op.load 27 (Operand.tmp 31), type := 27, pos := "state.go:82", after := #[{ on := 3, ground := Ground.data }], guard := none } : Oper)) (v := ?_) rfl (by kernel_rfl) (by kernel_rfl) (by kernel_rfl) (fun _ _ _ h => h) (Or.inl ⟨by rfl, ?_⟩) (by assumption) ?_
          rotate_left
          · (intro wz hSw; (try dsimp only at hSw); go_simp; try with_reducible rfl)
          simp only [Act.put, List.setIfInBounds_toArray, List.set_cons_zero, List.set_cons_succ]
          refine wpAnyH_take (i := 5) (oi := ({ dst := some 33, op := Op.move (Operand.tmp 8), type := 3, pos := "state.go:82", after := #[], guard := none } : Oper)) (v := ?_) rfl (by kernel_rfl) (by kernel_rfl) (by kernel_rfl) (fun _ _ _ h => h) (Or.inl ⟨by rfl, ?_⟩) (by assumption) ?_
          rotate_left
          · (intro wz hSw; (try dsimp only at hSw); go_simp; try with_reducible rfl)
          simp only [Act.put, List.setIfInBounds_toArray, List.set_cons_zero, List.set_cons_succ]
          refine wpAnyH_take (i := 6) (oi := ({ dst := some 34, op := Op.indexAddr 27 (Operand.tmp 32) (Operand.tmp 33), type := 0, pos := "state.go:82", after := #[{ on := 4, ground := Ground.data }, { on := 5, ground := Ground.data }], guard := none } : Oper)) (v := ?_) rfl (by kernel_rfl) (by kernel_rfl) (by kernel_rfl) (fun _ _ _ h => h) (Or.inl ⟨by rfl, ?_⟩) (by assumption) ?_
          rotate_left
          · (intro wz hSw; (try dsimp only at hSw); go_simp; try with_reducible rfl)
          simp only [Act.put, List.setIfInBounds_toArray, List.set_cons_zero, List.set_cons_succ]
          refine wpAnyH_take (i := 7) (oi := ({ dst := some 35, op := Op.load 53 (Operand.tmp 34), type := 53, pos := "state.go:82", after := #[{ on := 6, ground := Ground.data }], guard := none } : Oper)) (v := ?_) rfl (by kernel_rfl) (by kernel_rfl) (by kernel_rfl) (fun _ _ _ h => h) (Or.inl ⟨by rfl, ?_⟩) (by assumption) ?_
          rotate_left
          · (intro wz hSw; (try dsimp only at hSw); go_simp; try with_reducible rfl)
          simp only [Act.put, List.setIfInBounds_toArray, List.set_cons_zero, List.set_cons_succ]
          refine wpAnyH_take (i := 8) (oi := ({ dst := some 36, op := Op.fieldAddr 29 (Operand.tmp 4) 1, type := 0, pos := "state.go:82", after := #[], guard := none } : Oper)) (v := ?_) rfl (by kernel_rfl) (by kernel_rfl) (by kernel_rfl) (fun _ _ _ h => h) (Or.inl ⟨by rfl, ?_⟩) (by assumption) ?_
          rotate_left
          · (intro wz hSw; (try dsimp only at hSw); go_simp; try with_reducible rfl)
          simp only [Act.put, List.setIfInBounds_toArray, List.set_cons_zero, List.set_cons_succ]
          refine wpAnyH_take (i := 9) (oi := ({ dst := some 37, op := Op.load 27 (Operand.tmp 36), type := 27, pos := "state.go:82", after := #[{ on := 8, ground := Ground.data }], guard := none } : Oper)) (v := ?_) rfl (by kernel_rfl) (by kernel_rfl) (by kernel_rfl) (fun _ _ _ h => h) (Or.inl ⟨by rfl, ?_⟩) (by assumption) ?_
          rotate_left
          · (intro wz hSw; (try dsimp only at hSw); go_simp; try with_reducible rfl)
          simp only [Act.put, List.setIfInBounds_toArray, List.set_cons_zero, List.set_cons_succ]
          refine wpAnyH_take (i := 10) (oi := ({ dst := some 38, op := Op.move (Operand.tmp 8), type := 3, pos := "state.go:82", after := #[], guard := none } : Oper)) (v := ?_) rfl (by kernel_rfl) (by kernel_rfl) (by kernel_rfl) (fun _ _ _ h => h) (Or.inl ⟨by rfl, ?_⟩) (by assumption) ?_
          rotate_left
          · (intro wz hSw; (try dsimp only at hSw); go_simp; try with_reducible rfl)
          simp only [Act.put, List.setIfInBounds_toArray, List.set_cons_zero, List.set_cons_succ]
          refine wpAnyH_take (i := 11) (oi := ({ dst := some 39, op := Op.indexAddr 27 (Operand.tmp 37) (Operand.tmp 38), type := 0, pos := "state.go:82", after := #[{ on := 9, ground := Ground.data }, { on := 10, ground := Ground.data }], guard := none } : Oper)) (v := ?_) rfl (by kernel_rfl) (by kernel_rfl) (by kernel_rfl) (fun _ _ _ h => h) (Or.inl ⟨by rfl, ?_⟩) (by assumption) ?_
          rotate_left
          · (intro wz hSw; (try dsimp only at hSw); go_simp; try with_reducible rfl)
          simp only [Act.put, List.setIfInBounds_toArray, List.set_cons_zero, List.set_cons_succ]
          refine wpAnyH_take (i := 12) (oi := ({ dst := some 40, op := Op.load 53 (Operand.tmp 39), type := 53, pos := "state.go:82", after := #[{ on := 11, ground := Ground.data }], guard := none } : Oper)) (v := ?_) rfl (by kernel_rfl) (by kernel_rfl) (by kernel_rfl) (fun _ _ _ h => h) (Or.inl ⟨by rfl, ?_⟩) (by assumption) ?_
          rotate_left
          · (intro wz hSw; (try dsimp only at hSw); go_simp; try with_reducible rfl)
          simp only [Act.put, List.setIfInBounds_toArray, List.set_cons_zero, List.set_cons_succ]
          refine wpAnyH_ready (rs := [1, 13]) (by kernel_rfl) (by simp) ?_
          refine AllReadyH.cons (o := ({ dst := some 29, op := Op.load 27 (Operand.tmp 28), type := 27, pos := "state.go:82", after := #[{ on := 0, ground := Ground.data }], guard := none } : Oper)) rfl (fun K hK => ?_) (AllReadyH.cons (o := ({ dst := some 41, op := Op.call { callee := Callee.value (Operand.tmp 30), args := #[Operand.tmp 35, Operand.tmp 40], argTypes := #[53, 53] }, type := 53, pos := "state.go:82", after := #[{ on := 2, ground := Ground.data }, { on := 7, ground := Ground.data }, { on := 12, ground := Ground.data }], guard := none } : Oper)) rfl (fun K hK => ?_) AllReadyH.nil)
          · have zc := L0.out.bx.c1
            go_simp
            refine hK.out _ _ hH0 (fun _ => ?_)
            clear hK K zc
            refine wpAnyH_ready (rs := [13]) (by kernel_rfl) (by simp) ?_
            refine AllReadyH.cons (o := ({ dst := some 41, op := Op.call { callee := Callee.value (Operand.tmp 30), args := #[Operand.tmp 35, Operand.tmp 40], argTypes := #[53, 53] }, type := 53, pos := "state.go:82", after := #[{ on := 2, ground := Ground.data }, { on := 7, ground := Ground.data }, { on := 12, ground := Ground.data }], guard := none } : Oper)) rfl (fun K hK => ?_) AllReadyH.nil
            · go_simp
              go_at_call 44
              refine (cG _).mono ?_
              rintro e w1 ⟨rfl, hb1⟩
              have L1 := hide (L0.out.of hb1)
              have b1 := hide (b0.out.trans (hb1.mono (Nat.le_of_lt L0.out.bx.lt)))
              refine hK.out _ _ (HS.out _ b1.out) (fun hH1 => ?_)
              clear hK K hb1
              refine wpAnyH_ready (rs := [14]) (by kernel_rfl) (by simp) ?_
              refine AllReadyH.cons (o := ({ dst := some 42, op := Op.buildSlice 27 1 #[(0, Operand.tmp 41)], type := 27, pos := "state.go:82", after := #[{ on := 13, ground := Ground.data }], guard := none } : Oper)) rfl (fun K hK => ?_) AllReadyH.nil
              · go_simp
                have hb2 : Below w1.heap.size w1 (w1.alloc (.cells #[.int .i64 (up u.s), .bool u.k, .int .i64 u.n, .int .i64 u.lo, .int .i64 u.hi, .int .i64 (up u.p)] 53)) := (Below.refl _ _).alloc (Nat.le_refl _) _
                have L2 := hide (L1.out.of hb2)
                have b2 := hide (b1.out.trans (hb2.mono (Nat.le_of_lt L1.out.bx.lt)))
                have Y2 := hide (B6.newV w1 u 53)
                refine hK.out _ _ (HS.out _ b2.out) (fun hH2 => ?_)
                clear hK K hb2
                obtain ⟨w2, hw2⟩ : ∃ z9, z9 = (w1.alloc (.cells #[.int .i64 (up u.s), .bool u.k, .int .i64 u.n, .int .i64 u.lo, .int .i64 u.hi, .int .i64 (up u.p)] 53)) := ⟨_, rfl⟩
                rw [← hw2] at hH2 L2 b2 Y2 ⊢
                clear hw2
                generalize w1.heap.size = nb at *
                refine wpAnyH_ready (rs := [15]) (by kernel_rfl) (by simp) ?_
                refine AllReadyH.cons (o := ({ dst := some 43, op := Op.call { callee := Callee.builtin Builtin.append, args := #[Operand.tmp 29, Operand.tmp 42], argTypes := #[27, 27] }, type := 27, pos := "state.go:82", after := #[{ on := 1, ground := Ground.data }, { on := 14, ground := Ground.data }, { on := 13, ground := Ground.chain }], guard := none } : Oper)) rfl (fun K hK => ?_) AllReadyH.nil
                · refine wp_appV' w2 (q2 + 1) 27 53 Try.underlying27 info53p (.tmp 29) (.tmp 42) rfl _ pv u.raw nb L2.out.ov Y2.out rfl rfl ?_ (Nat.succ_le_of_lt L2.out.bx.lt) ?_
                  · first | omega | (simp; omega)
                  intro a3 c3 w3 hO3 hg3
                  have b3 := hide (L2.out.belV b2.out hg3)
                  refine hK.out _ _ (HS.out _ b3.out) (fun hH3 => ?_)
                  clear hK K
                  replace hO3 := hide hO3
                  replace hg3 := hide hg3
                  refine wpAnyH_take (i := 16) (oi := ({ dst := some 44, op := Op.fieldAddr 29 (Operand.tmp 7) 1, type := 0, pos := "state.go:82", after := #[{ on := 0, ground := Ground.phase }, { on := 1, ground := Ground.phase }, { on := 2, ground := Ground.phase }, { on := 3, ground := Ground.phase }, { on := 4, ground := Ground.phase }, { on := 5, ground := Ground.phase }, { on := 6, ground := Ground.phase }, { on := 7, ground := Ground.phase }, { on := 8, ground := Ground.phase }, { on := 9, ground := Ground.phase }, { on := 10, ground := Ground.phase }, { on := 11, ground := Ground.phase }, { on := 12, ground := Ground.phase }, { on := 13, ground := Ground.phase }, { on := 14, ground := Ground.phase }, { on := 15, ground := Ground.phase }], guard := none } : Oper)) (v := ?_) rfl (by kernel_rfl) (by kernel_rfl) (by kernel_rfl) (fun _ _ _ h => h) (Or.inl ⟨by rfl, ?_⟩) (by assumption) ?_
                  rotate_left
                  · (intro wz hSw; (try dsimp only at hSw); go_simp; try with_reducible rfl)
                  simp only [Act.put, List.setIfInBounds_toArray, List.set_cons_zero, List.set_cons_succ]
                  refine wpAnyH_ready (rs := [17]) (by kernel_rfl) (by simp) ?_
                  refine AllReadyH.cons (o := ({ dst := none, op := Op.store 27 (Operand.tmp 44) (Operand.tmp 43), type := 0, pos := "state.go:82", after := #[{ on := 16, ground := Ground.data }, { on := 15, ground := Ground.data }, { on := 15, ground := Ground.chain }, { on := 0, ground := Ground.phase }, { on := 1, ground := Ground.phase }, { on := 2, ground := Ground.phase }, { on := 3, ground := Ground.phase }, { on := 4, ground := Ground.phase }, { on := 5, ground := Ground.phase }, { on := 6, ground := Ground.phase }, { on := 7, ground := Ground.phase }, { on := 8, ground := Ground.phase }, { on := 9, ground := Ground.phase }, { on := 10, ground := Ground.phase }, { on := 11, ground := Ground.phase }, { on := 12, ground := Ground.phase }, { on := 13, ground := Ground.phase }, { on := 14, ground := Ground.phase }, { on := 15, ground := Ground.phase }], guard := none } : Oper)) rfl (fun K hK => ?_) AllReadyH.nil
                  · have zb := (L2.out.boxV hg3.out).1
                    have zf := (L2.out.boxV hg3.out).2
                    have z0 := zb.c0
                    have z1 := zb.c1
                    have z2 := zb.c2
                    have y0 := zf.f0
                    have y1 := zf.f1
                    have y2 := zf.f2
                    clear zb zf
                    go_simp
                    have L4 := hide (L2.out.appV (by decide) (by decide) hO3.out hg3.out)
                    have b4 := hide (b3.out.setCell (p := ⟨q2, 1, none⟩) (Nat.le_refl _) (.slice a3 (pv.length + 1) c3))
                    refine hK.out _ _ (HS.out _ b4.out) (fun hH4 => ?_)
                    clear hK K z0 z1 z2 y0 y1 y2
                    obtain ⟨w4, hw4⟩ : ∃ z9, z9 = w3.setCell ⟨q2, 1, none⟩ (.slice a3 (pv.length + 1) c3) := ⟨_, rfl⟩
                    rw [← hw4] at hH4 L4 b4  ⊢
                    clear hw4
                    refine wpAnyH_done (by kernel_rfl) ?_ _
                    go_wp2_with fail
                    go_meet
                    case rel => exact ⟨rfl, _, ⟨KW.out.1.of (b4.out.block q0 FQ.out.1), KW.out.2.1.of (b4.out.block q1 FQ.out.2.1), KW.out.2.2.1.of (b4.out.block q5 FQ.out.2.2.1), KW.out.2.2.2.of (b4.out.block q5 FQ.out.2.2.1)⟩, ⟨_, rfl, L4.out⟩, BW.out.trans (b4.out.mono FQ.out.2.2.2.1)⟩
          · go_simp
            go_at_call 44
            refine (cG _).mono ?_
            rintro e w1 ⟨rfl, hb1⟩
            have L1 := hide (L0.out.of hb1)
            have b1 := hide (b0.out.trans (hb1.mono (Nat.le_of_lt L0.out.bx.lt)))
            refine hK.out _ _ (HS.out _ b1.out) (fun hH1 => ?_)
            clear hK K hb1
            refine wpAnyH_ready (rs := [1, 14]) (by kernel_rfl) (by simp) ?_
            refine AllReadyH.cons (o := ({ dst := some 29, op := Op.load 27 (Operand.tmp 28), type := 27, pos := "state.go:82", after := #[{ on := 0, ground := Ground.data }], guard := none } : Oper)) rfl (fun K hK => ?_) (AllReadyH.cons (o := ({ dst := some 42, op := Op.buildSlice 27 1 #[(0, Operand.tmp 41)], type := 27, pos := "state.go:82", after := #[{ on := 13, ground := Ground.data }], guard := none } : Oper)) rfl (fun K hK => ?_) AllReadyH.nil)
            · have zc := L1.out.bx.c1
              go_simp
              refine hK.out _ _ hH1 (fun _ => ?_)
              clear hK K zc
              refine wpAnyH_ready (rs := [14]) (by kernel_rfl) (by simp) ?_
              refine AllReadyH.cons (o := ({ dst := some 42, op := Op.buildSlice 27 1 #[(0, Operand.tmp 41)], type := 27, pos := "state.go:82", after := #[{ on := 13, ground := Ground.data }], guard := none } : Oper)) rfl (fun K hK => ?_) AllReadyH.nil
              · go_simp
                have hb2 : Below w1.heap.size w1 (w1.alloc (.cells #[.int .i64 (up u.s), .bool u.k, .int .i64 u.n, .int .i64 u.lo, .int .i64 u.hi, .int .i64 (up u.p)] 53)) := (Below.refl _ _).alloc (Nat.le_refl _) _
                have L2 := hide (L1.out.of hb2)
                have b2 := hide (b1.out.trans (hb2.mono (Nat.le_of_lt L1.out.bx.lt)))
                have Y2 := hide (B6.newV w1 u 53)
                refine hK.out _ _ (HS.out _ b2.out) (fun hH2 => ?_)
                clear hK K hb2
                obtain ⟨w2, hw2⟩ : ∃ z9, z9 = (w1.alloc (.cells #[.int .i64 (up u.s), .bool u.k, .int .i64 u.n, .int .i64 u.lo, .int .i64 u.hi, .int .i64 (up u.p)] 53)) := ⟨_, rfl⟩
                rw [← hw2] at hH2 L2 b2 Y2 ⊢
                clear hw2
                generalize w1.heap.size = nb at *
                refine wpAnyH_ready (rs := [15]) (by kernel_rfl) (by simp) ?_
                refine AllReadyH.cons (o := ({ dst := some 43, op := Op.call { callee := Callee.builtin Builtin.append, args := #[Operand.tmp 29, Operand.tmp 42], argTypes := #[27, 27] }, type := 27, pos := "state.go:82", after := #[{ on := 1, ground := Ground.data }, { on := 14, ground := Ground.data }, { on := 13, ground := Ground.chain }], guard := none } : Oper)) rfl (fun K hK => ?_) AllReadyH.nil
                · refine wp_appV' w2 (q2 + 1) 27 53 Try.underlying27 info53p (.tmp 29) (.tmp 42) rfl _ pv u.raw nb L2.out.ov Y2.out rfl rfl ?_ (Nat.succ_le_of_lt L2.out.bx.lt) ?_
                  · first | omega | (simp; omega)
                  intro a3 c3 w3 hO3 hg3
                  have b3 := hide (L2.out.belV b2.out hg3)
                  refine hK.out _ _ (HS.out _ b3.out) (fun hH3 => ?_)
                  clear hK K
                  replace hO3 := hide hO3
                  replace hg3 := hide hg3
                  refine wpAnyH_take (i := 16) (oi := ({ dst := some 44, op := Op.fieldAddr 29 (Operand.tmp 7) 1, type := 0, pos := "state.go:82", after := #[{ on := 0, ground := Ground.phase }, { on := 1, ground := Ground.phase }, { on := 2, ground := Ground.phase }, { on := 3, ground := Ground.phase }, { on := 4, ground := Ground.phase }, { on := 5, ground := Ground.phase }, { on := 6, ground := Ground.phase }, { on := 7, ground := Ground.phase }, { on := 8, ground := Ground.phase }, { on := 9, ground := Ground.phase }, { on := 10, ground := Ground.phase }, { on := 11, ground := Ground.phase }, { on := 12, ground := Ground.phase }, { on := 13, ground := Ground.phase }, { on := 14, ground := Ground.phase }, { on := 15, ground := Ground.phase }], guard := none } : Oper)) (v := ?_) rfl (by kernel_rfl) (by kernel_rfl) (by kernel_rfl) (fun _ _ _ h => h) (Or.inl ⟨by rfl, ?_⟩) (by assumption) ?_
                  rotate_left
                  · (intro wz hSw; (try dsimp only at hSw); go_simp; try with_reducible rfl)
                  simp only [Act.put, List.setIfInBounds_toArray, List.set_cons_zero, List.set_cons_succ]
                  refine wpAnyH_ready (rs := [17]) (by kernel_rfl) (by simp) ?_
                  refine AllReadyH.cons (o := ({ dst := none, op := Op.store 27 (Operand.tmp 44) (Operand.tmp 43), type := 0, pos := "state.go:82", after := #[{ on := 16, ground := Ground.data }, { on := 15, ground := Ground.data }, { on := 15, ground := Ground.chain }, { on := 0, ground := Ground.phase }, { on := 1, ground := Ground.phase }, { on := 2, ground := Ground.phase }, { on := 3, ground := Ground.phase }, { on := 4, ground := Ground.phase }, { on := 5, ground := Ground.phase }, { on := 6, ground := Ground.phase }, { on := 7, ground := Ground.phase }, { on := 8, ground := Ground.phase }, { on := 9, ground := Ground.phase }, { on := 10, ground := Ground.phase }, { on := 11, ground := Ground.phase }, { on := 12, ground := Ground.phase }, { on := 13, ground := Ground.phase }, { on := 14, ground := Ground.phase }, { on := 15, ground := Ground.phase }], guard := none } : Oper)) rfl (fun K hK => ?_) AllReadyH.nil
                  · have zb := (L2.out.boxV hg3.out).1
                    have zf := (L2.out.boxV hg3.out).2
                    have z0 := zb.c0
                    have z1 := zb.c1
                    have z2 := zb.c2
                    have y0 := zf.f0
                    have y1 := zf.f1
                    have y2 := zf.f2
                    clear zb zf
                    go_simp
                    have L4 := hide (L2.out.appV (by decide) (by decide) hO3.out hg3.out)
                    have b4 := hide (b3.out.setCell (p := ⟨q2, 1, none⟩) (Nat.le_refl _) (.slice a3 (pv.length + 1) c3))
                    refine hK.out _ _ (HS.out _ b4.out) (fun hH4 => ?_)
                    clear hK K z0 z1 z2 y0 y1 y2
                    obtain ⟨w4, hw4⟩ : ∃ z9, z9 = w3.setCell ⟨q2, 1, none⟩ (.slice a3 (pv.length + 1) c3) := ⟨_, rfl⟩
                    rw [← hw4] at hH4 L4 b4  ⊢
                    clear hw4
                    refine wpAnyH_done (by kernel_rfl) ?_ _
                    go_wp2_with fail
                    go_meet
                    case rel => exact ⟨rfl, _, ⟨KW.out.1.of (b4.out.block q0 FQ.out.1), KW.out.2.1.of (b4.out.block q1 FQ.out.2.1), KW.out.2.2.1.of (b4.out.block q5 FQ.out.2.2.1), KW.out.2.2.2.of (b4.out.block q5 FQ.out.2.2.1)⟩, ⟨_, rfl, L4.out⟩, BW.out.trans (b4.out.mono FQ.out.2.2.2.1)⟩
            · go_simp
              have hb2 : Below w1.heap.size w1 (w1.alloc (.cells #[.int .i64 (up u.s), .bool u.k, .int .i64 u.n, .int .i64 u.lo, .int .i64 u.hi, .int .i64 (up u.p)] 53)) := (Below.refl _ _).alloc (Nat.le_refl _) _
              have L2 := hide (L1.out.of hb2)
              have b2 := hide (b1.out.trans (hb2.mono (Nat.le_of_lt L1.out.bx.lt)))
              have Y2 := hide (B6.newV w1 u 53)
              refine hK.out _ _ (HS.out _ b2.out) (fun hH2 => ?_)
              clear hK K hb2
              obtain ⟨w2, hw2⟩ : ∃ z9, z9 = (w1.alloc (.cells #[.int .i64 (up u.s), .bool u.k, .int .i64 u.n, .int .i64 u.lo, .int .i64 u.hi, .int .i64 (up u.p)] 53)) := ⟨_, rfl⟩
              rw [← hw2] at hH2 L2 b2 Y2 ⊢
              clear hw2
              generalize w1.heap.size = nb at *
              refine wpAnyH_ready (rs := [1]) (by kernel_rfl) (by simp) ?_
              refine AllReadyH.cons (o := ({ dst := some 29, op := Op.load 27 (Operand.tmp 28), type := 27, pos := "state.go:82", after := #[{ on := 0, ground := Ground.data }], guard := none } : Oper)) rfl (fun K hK => ?_) AllReadyH.nil
              · have zc := L2.out.bx.c1
                go_simp
                refine hK.out _ _ hH2 (fun _ => ?_)
                clear hK K zc
                refine wpAnyH_ready (rs := [15]) (by kernel_rfl) (by simp) ?_
                refine AllReadyH.cons (o := ({ dst := some 43, op := Op.call { callee := Callee.builtin Builtin.append, args := #[Operand.tmp 29, Operand.tmp 42], argTypes := #[27, 27] }, type := 27, pos := "state.go:82", after := #[{ on := 1, ground := Ground.data }, { on := 14, ground := Ground.data }, { on := 13, ground := Ground.chain }], guard := none } : Oper)) rfl (fun K hK => ?_) AllReadyH.nil
                · refine wp_appV' w2 (q2 + 1) 27 53 Try.underlying27 info53p (.tmp 29) (.tmp 42) rfl _ pv u.raw nb L2.out.ov Y2.out rfl rfl ?_ (Nat.succ_le_of_lt L2.out.bx.lt) ?_
                  · first | omega | (simp; omega)
                  intro a3 c3 w3 hO3 hg3
                  have b3 := hide (L2.out.belV b2.out hg3)
                  refine hK.out _ _ (HS.out _ b3.out) (fun hH3 => ?_)
                  clear hK K
                  replace hO3 := hide hO3
                  replace hg3 := hide hg3
                  refine wpAnyH_take (i := 16) (oi := ({ dst := some 44, op := Op.fieldAddr 29 (Operand.tmp 7) 1, type := 0, pos := "state.go:82", after := #[{ on := 0, ground := Ground.phase }, { on := 1, ground := Ground.phase }, { on := 2, ground := Ground.phase }, { on := 3, ground := Ground.phase }, { on := 4, ground := Ground.phase }, { on := 5, ground := Ground.phase }, { on := 6, ground := Ground.phase }, { on := 7, ground := Ground.phase }, { on := 8, ground := Ground.phase }, { on := 9, ground := Ground.phase }, { on := 10, ground := Ground.phase }, { on := 11, ground := Ground.phase }, { on := 12, ground := Ground.phase }, { on := 13, ground := Ground.phase }, { on := 14, ground := Ground.phase }, { on := 15, ground := Ground.phase }], guard := none } : Oper)) (v := ?_) rfl (by kernel_rfl) (by kernel_rfl) (by kernel_rfl) (fun _ _ _ h => h) (Or.inl ⟨by rfl, ?_⟩) (by assumption) ?_
                  rotate_left
                  · (intro wz hSw; (try dsimp only at hSw); go_simp; try with_reducible rfl)
                  simp only [Act.put, List.setIfInBounds_toArray, List.set_cons_zero, List.set_cons_succ]
                  refine wpAnyH_ready (rs := [17]) (by kernel_rfl) (by simp) ?_
                  refine AllReadyH.cons (o := ({ dst := none, op := Op.store 27 (Operand.tmp 44) (Operand.tmp 43), type := 0, pos := "state.go:82", after := #[{ on := 16, ground := Ground.data }, { on := 15, ground := Ground.data }, { on := 15, ground := Ground.chain }, { on := 0, ground := Ground.phase }, { on := 1, ground := Ground.phase }, { on := 2, ground := Ground.phase }, { on := 3, ground := Ground.phase }, { on := 4, ground := Ground.phase }, { on := 5, ground := Ground.phase }, { on := 6, ground := Ground.phase }, { on := 7, ground := Ground.phase }, { on := 8, ground := Ground.phase }, { on := 9, ground := Ground.phase }, { on := 10, ground := Ground.phase }, { on := 11, ground := Ground.phase }, { on := 12, ground := Ground.phase }, { on := 13, ground := Ground.phase }, { on := 14, ground := Ground.phase }, { on := 15, ground := Ground.phase }], guard := none } : Oper)) rfl (fun K hK => ?_) AllReadyH.nil
                  · have zb := (L2.out.boxV hg3.out).1
                    have zf := (L2.out.boxV hg3.out).2
                    have z0 := zb.c0
                    have z1 := zb.c1
                    have z2 := zb.c2
                    have y0 := zf.f0
                    have y1 := zf.f1
                    have y2 := zf.f2
                    clear zb zf
                    go_simp
                    have L4 := hide (L2.out.appV (by decide) (by decide) hO3.out hg3.out)
                    have b4 := hide (b3.out.setCell (p := ⟨q2, 1, none⟩) (Nat.le_refl _) (.slice a3 (pv.length + 1) c3))
                    refine hK.out _ _ (HS.out _ b4.out) (fun hH4 => ?_)
                    clear hK K z0 z1 z2 y0 y1 y2
                    obtain ⟨w4, hw4⟩ : ∃ z9, z9 = w3.setCell ⟨q2, 1, none⟩ (.slice a3 (pv.length + 1) c3) := ⟨_, rfl⟩
                    rw [← hw4] at hH4 L4 b4  ⊢
                    clear hw4
                    refine wpAnyH_done (by kernel_rfl) ?_ _
                    go_wp2_with fail
                    go_meet
                    case rel => exact ⟨rfl, _, ⟨KW.out.1.of (b4.out.block q0 FQ.out.1), KW.out.2.1.of (b4.out.block q1 FQ.out.2.1), KW.out.2.2.1.of (b4.out.block q5 FQ.out.2.2.1), KW.out.2.2.2.of (b4.out.block q5 FQ.out.2.2.1)⟩, ⟨_, rfl, L4.out⟩, BW.out.trans (b4.out.mono FQ.out.2.2.2.1)⟩
        case rest =>
          obtain ⟨rfl, va3, h8⟩ := hcut
          obtain ⟨tv, htv, hLo⟩ := h8.out.2.1
          rw [← htv] at HT1
          clear htv KW LW BW HS cG H6
          have KW0 := hide h8.out.1
          have LW0 := hide hLo
          have BW0 := hide h8.out.2.2
          clear h8 hLo
          go_upto_region 10 with fail
          go_name_world W10 hW10
          rw [hW10] at KW0 LW0 BW0
          clear hW10
          have KW : Hid (Bs W10 q0 true (.slice (some ⟨b1, o1, none⟩) us.length c) (.slice (some ⟨b6, o6, none⟩) ss.length d) ∧ Bs W10 q1 true (.slice (some ⟨b3, o3, none⟩) us2.length c2) (.slice (some ⟨b7, o7, none⟩) ss2.length d2) ∧ Bs W10 q5 false (.slice none 0 0) (.slice none 0 0) ∧ Fs W10 q5) := KW0
          have LW := LW0
          have BW := BW0
          clear KW0 LW0 BW0
          have HI : Hid (∀ w', Below q2 W10 w' → Ri w' ai l) := hide (fun w' h => H7.out.2.1.keep' (BW.out.trans (h.mono FQ.out.2.2.2.1)))
          have HJ : Hid (∀ w', Below q2 W10 w' → Ri w' aj m) := hide (fun w' h => H7.out.2.2.2.keep' (BW.out.trans (h.mono FQ.out.2.2.2.1)))
          have HS : Hid (∀ w', Below q2 W10 w' → (w'.cell? ⟨q0, 2, none⟩ = some (.slice (some ⟨b6, o6, none⟩) ss.length d) ∧ w'.cell? ⟨q1, 2, none⟩ = some (.slice (some ⟨b7, o7, none⟩) ss2.length d2) ∧ w'.cell? ⟨b6, o6 + k, none⟩ = some (.slice ai l.length ci) ∧ w'.cell? ⟨b7, o7 + k, none⟩ = some (.slice aj m.length cj))) := fun w' h => by
            have u := BW.out.trans (h.mono FQ.out.2.2.2.1)
            exact ⟨(h.cell (p := ⟨q0, 2, none⟩) FQ.out.1).trans KW.out.1.c2, (h.cell (p := ⟨q1, 2, none⟩) FQ.out.2.1).trans KW.out.2.1.c2, (u.cell (p := ⟨b6, o6 + k, none⟩) (World.block_lt_of_cell? w _ H7.out.1)).trans H7.out.1, (u.cell (p := ⟨b7, o7 + k, none⟩) (World.block_lt_of_cell? w _ H7.out.2.2.1)).trans H7.out.2.2.1⟩
          refine wp_region_held_drew (S := fun w' => w'.cell? ⟨q0, 2, none⟩ = some (.slice (some ⟨b6, o6, none⟩) ss.length d) ∧ w'.cell? ⟨q1, 2, none⟩ = some (.slice (some ⟨b7, o7, none⟩) ss2.length d2) ∧ w'.cell? ⟨b6, o6 + k, none⟩ = some (.slice ai l.length ci) ∧ w'.cell? ⟨b7, o7 + k, none⟩ = some (.slice aj m.length cj)) (by kernel_rfl) (HS.out _ (Below.refl _ _).drew) (fun hH0 => ?_)
          obtain ⟨w0, hw0⟩ : ∃ w0, w0 = W10.drew := ⟨_, rfl⟩
          (try rw [← hw0] at hH0)
          rw [← hw0]
          have L0 : Hid (Lo w0 (q2 + 1) q2 53 ⟨true, tv, ts⟩ va3 sa es) := hw0 ▸ hide (LW.out.of (Below.refl _ _).drew)
          have b0 : Hid (Below q2 W10 w0) := hw0 ▸ hide (Below.refl _ _).drew
          clear hw0
          refine wpAnyH_take (i := 0) (oi := ({ dst := some 45, op := Op.fieldAddr 29 (Operand.tmp 7) 2, type := 0, pos := "state.go:83", after := #[], guard := none } : Oper)) (v := ?_) rfl (by kernel_rfl) (by kernel_rfl) (by kernel_rfl) (fun _ _ _ h => h) (Or.inl ⟨by rfl, ?_⟩) (by assumption) ?_
          rotate_left
          · (intro wz hSw; (try dsimp only at hSw); go_simp; try with_reducible rfl)
          simp only [Act.put, List.setIfInBounds_toArray, List.set_cons_zero, List.set_cons_succ]
          refine wpAnyH_take (i := 2) (oi := ({ dst := some 47, op := Op.fieldAddr 29 (Operand.tmp 3) 2, type := 0, pos := "state.go:83", after := #[], guard := none } : Oper)) (v := ?_) rfl (by kernel_rfl) (by kernel_rfl) (by kernel_rfl) (fun _ _ _ h => h) (Or.inl ⟨by rfl, ?_⟩) (by assumption) ?_
          rotate_left
          · (intro wz hSw; (try dsimp only at hSw); go_simp; try with_reducible rfl)
          simp only [Act.put, List.setIfInBounds_toArray, List.set_cons_zero, List.set_cons_succ]
          refine wpAnyH_take (i := 3) (oi := ({ dst := some 48, op := Op.load 23 (Operand.tmp 47), type := 23, pos := "state.go:83", after := #[{ on := 2, ground := Ground.data }], guard := none } : Oper)) (v := ?_) rfl (by kernel_rfl) (by kernel_rfl) (by kernel_rfl) (fun _ _ _ h => h) (Or.inl ⟨by rfl, ?_⟩) (by assumption) ?_
          rotate_left
          · (intro wz hSw; (try dsimp only at hSw); go_simp; try with_reducible rfl)
          simp only [Act.put, List.setIfInBounds_toArray, List.set_cons_zero, List.set_cons_succ]
          refine wpAnyH_take (i := 4) (oi := ({ dst := some 49, op := Op.move (Operand.tmp 8), type := 3, pos := "state.go:83", after := #[], guard := none } : Oper)) (v := ?_) rfl (by kernel_rfl) (by kernel_rfl) (by kernel_rfl) (fun _ _ _ h => h) (Or.inl ⟨by rfl, ?_⟩) (by assumption) ?_
          rotate_left
          · (intro wz hSw; (try dsimp only at hSw); go_simp; try with_reducible rfl)
          simp only [Act.put, List.setIfInBounds_toArray, List.set_cons_zero, List.set_cons_succ]
          refine wpAnyH_take (i := 5) (oi := ({ dst := some 50, op := Op.indexAddr 23 (Operand.tmp 48) (Operand.tmp 49), type := 0, pos := "state.go:83", after := #[{ on := 3, ground := Ground.data }, { on := 4, ground := Ground.data }], guard := none } : Oper)) (v := ?_) rfl (by kernel_rfl) (by kernel_rfl) (by kernel_rfl) (fun _ _ _ h => h) (Or.inl ⟨by rfl, ?_⟩) (by assumption) ?_
          rotate_left
          · (intro wz hSw; (try dsimp only at hSw); go_simp; try with_reducible rfl)
          simp only [Act.put, List.setIfInBounds_toArray, List.set_cons_zero, List.set_cons_succ]
          refine wpAnyH_take (i := 6) (oi := ({ dst := some 51, op := Op.load 38 (Operand.tmp 50), type := 38, pos := "state.go:83", after := #[{ on := 5, ground := Ground.data }], guard := none } : Oper)) (v := ?_) rfl (by kernel_rfl) (by kernel_rfl) (by kernel_rfl) (fun _ _ _ h => h) (Or.inl ⟨by rfl, ?_⟩) (by assumption) ?_
          rotate_left
          · (intro wz hSw; (try dsimp only at hSw); go_simp; try with_reducible rfl)
          simp only [Act.put, List.setIfInBounds_toArray, List.set_cons_zero, List.set_cons_succ]
          refine wpAnyH_take (i := 7) (oi := ({ dst := some 52, op := Op.fieldAddr 29 (Operand.tmp 4) 2, type := 0, pos := "state.go:83", after := #[], guard := none } : Oper)) (v := ?_) rfl (by kernel_rfl) (by kernel_rfl) (by kernel_rfl) (fun _ _ _ h => h) (Or.inl ⟨by rfl, ?_⟩) (by assumption) ?_
          rotate_left
          · (intro wz hSw; (try dsimp only at hSw); go_simp; try with_reducible rfl)
          simp only [Act.put, List.setIfInBounds_toArray, List.set_cons_zero, List.set_cons_succ]
          refine wpAnyH_take (i := 8) (oi := ({ dst := some 53, op := Op.load 23 (Operand.tmp 52), type := 23, pos := "state.go:83", after := #[{ on := 7, ground := Ground.data }], guard := none } : Oper)) (v := ?_) rfl (by kernel_rfl) (by kernel_rfl) (by kernel_rfl) (fun _ _ _ h => h) (Or.inl ⟨by rfl, ?_⟩) (by assumption) ?_
          rotate_left
          · (intro wz hSw; (try dsimp only at hSw); go_simp; try with_reducible rfl)
          simp only [Act.put, List.setIfInBounds_toArray, List.set_cons_zero, List.set_cons_succ]
          refine wpAnyH_take (i := 9) (oi := ({ dst := some 54, op := Op.move (Operand.tmp 8), type := 3, pos := "state.go:83", after := #[], guard := none } : Oper)) (v := ?_) rfl (by kernel_rfl) (by kernel_rfl) (by kernel_rfl) (fun _ _ _ h => h) (Or.inl ⟨by rfl, ?_⟩) (by assumption) ?_
          rotate_left
          · (intro wz hSw; (try dsimp only at hSw); go_simp; try with_reducible rfl)
          simp only [Act.put, List.setIfInBounds_toArray, List.set_cons_zero, List.set_cons_succ]
          refine wpAnyH_take (i := 10) (oi := ({ dst := some 55, op := Op.indexAddr 23 (Operand.tmp 53) (Operand.tmp 54), type := 0, pos := "state.go:83", after := #[{ on := 8, ground := Ground.data }, { on := 9, ground := Ground.data }], guard := none } : Oper)) (v := ?_) rfl (by kernel_rfl) (by kernel_rfl) (by kernel_rfl) (fun _ _ _ h => h) (Or.inl ⟨by rfl, ?_⟩) (by assumption) ?_
          rotate_left
          · (intro wz hSw; (try dsimp only at hSw); go_simp; try with_reducible rfl)
          simp only [Act.put, List.setIfInBounds_toArray, List.set_cons_zero, List.set_cons_succ]
          refine wpAnyH_take (i := 11) (oi := ({ dst := some 56, op := Op.load 38 (Operand.tmp 55), type := 38, pos := "state.go:83", after := #[{ on := 10, ground := Ground.data }], guard := none } : Oper)) (v := ?_) rfl (by kernel_rfl) (by kernel_rfl) (by kernel_rfl) (fun _ _ _ h => h) (Or.inl ⟨by rfl, ?_⟩) (by assumption) ?_
          rotate_left
          · (intro wz hSw; (try dsimp only at hSw); go_simp; try with_reducible rfl)
          simp only [Act.put, List.setIfInBounds_toArray, List.set_cons_zero, List.set_cons_succ]
          refine wpAnyH_ready (rs := [1, 12]) (by kernel_rfl) (by simp) ?_
          refine AllReadyH.cons (o := ({ dst := some 46, op := Op.load 23 (Operand.tmp 45), type := 23, pos := "state.go:83", after := #[{ on := 0, ground := Ground.data }], guard := none } : Oper)) rfl (fun K hK => ?_) (AllReadyH.cons (o := ({ dst := some 57, op := Op.call { callee := Callee.value (Operand.func 87), args := #[Operand.tmp 51, Operand.tmp 56], argTypes := #[38, 38] }, type := 38, pos := "state.go:83", after := #[{ on := 6, ground := Ground.data }, { on := 11, ground := Ground.data }], guard := none } : Oper)) rfl (fun K hK => ?_) AllReadyH.nil)
          · have zc := L0.out.bx.c2
            go_simp
            refine hK.out _ _ hH0 (fun _ => ?_)
            clear hK K zc
            refine wpAnyH_ready (rs := [12]) (by kernel_rfl) (by simp) ?_
            refine AllReadyH.cons (o := ({ dst := some 57, op := Op.call { callee := Callee.value (Operand.func 87), args := #[Operand.tmp 51, Operand.tmp 56], argTypes := #[38, 38] }, type := 38, pos := "state.go:83", after := #[{ on := 6, ground := Ground.data }, { on := 11, ground := Ground.data }], guard := none } : Oper)) rfl (fun K hK => ?_) AllReadyH.nil
            · go_simp
              go_at_call 87
              refine (bunion_own l m ai aj ci cj _ (HI.out _ b0.out) (HJ.out _ b0.out) HLM.out.1 HLM.out.2.1 HLM.out.2.2.1 HLM.out.2.2.2.1 HLM.out.2.2.2.2).mono ?_
              rintro e w1 ⟨ax, cx, rfl, hS⟩
              have hb1 := hS.bel
              have L1 := hide (L0.out.of hb1)
              have b1 := hide (b0.out.trans (hb1.mono (Nat.le_of_lt L0.out.bx.lt)))
              have I1 := hide (hS.owi (Nat.succ_le_of_lt L0.out.bx.lt))
              refine hK.out _ _ (HS.out _ b1.out) (fun hH1 => ?_)
              clear hK K hb1 hS
              refine wpAnyH_ready (rs := [13]) (by kernel_rfl) (by simp) ?_
              refine AllReadyH.cons (o := ({ dst := some 58, op := Op.buildSlice 23 1 #[(0, Operand.tmp 57)], type := 23, pos := "state.go:83", after := #[{ on := 12, ground := Ground.data }], guard := none } : Oper)) rfl (fun K hK => ?_) AllReadyH.nil
              · go_simp
                have hb2 : Below w1.heap.size w1 (w1.alloc (.cells #[(.slice ax (uniL l m).length cx)] 38)) := (Below.refl _ _).alloc (Nat.le_refl _) _
                have L2 := hide (L1.out.of hb2)
                have b2 := hide (b1.out.trans (hb2.mono (Nat.le_of_lt L1.out.bx.lt)))
                have I2 := hide (I1.out.keep hb2)
                have Y2 := hide (C1.new w1 (.slice ax (uniL l m).length cx) 38)
                refine hK.out _ _ (HS.out _ b2.out) (fun hH2 => ?_)
                clear hK K hb2
                obtain ⟨w2, hw2⟩ : ∃ z9, z9 = (w1.alloc (.cells #[(.slice ax (uniL l m).length cx)] 38)) := ⟨_, rfl⟩
                rw [← hw2] at hH2 L2 b2 Y2 I2 ⊢
                clear hw2
                generalize w1.heap.size = nc at *
                refine wpAnyH_ready (rs := [14]) (by kernel_rfl) (by simp) ?_
                refine AllReadyH.cons (o := ({ dst := some 59, op := Op.call { callee := Callee.builtin Builtin.append, args := #[Operand.tmp 46, Operand.tmp 58], argTypes := #[23, 23] }, type := 23, pos := "state.go:83", after := #[{ on := 1, ground := Ground.data }, { on := 13, ground := Ground.data }, { on := 12, ground := Ground.chain }], guard := none } : Oper)) rfl (fun K hK => ?_) AllReadyH.nil
                · refine wp_appR' w2 (q2 + 1) (.tmp 46) (.tmp 58) rfl _ es (.slice ax (uniL l m).length cx) nc rfl L2.out.os Y2.out.c rfl rfl ?_ (Nat.succ_le_of_lt L2.out.bx.lt) ?_
                  · (have t1 := L2.out.inn.1; have t2 := HTL.out; dsimp only at t1; omega)
                  intro a3 c3 w3 hO3 hg3
                  have b3 := hide (L2.out.belR b2.out hg3)
                  refine hK.out _ _ (HS.out _ b3.out) (fun hH3 => ?_)
                  clear hK K
                  replace hO3 := hide hO3
                  replace hg3 := hide hg3
                  refine wpAnyH_take (i := 15) (oi := ({ dst := some 60, op := Op.fieldAddr 29 (Operand.tmp 7) 2, type := 0, pos := "state.go:83", after := #[{ on := 0, ground := Ground.phase }, { on := 1, ground := Ground.phase }, { on := 2, ground := Ground.phase }, { on := 3, ground := Ground.phase }, { on := 4, ground := Ground.phase }, { on := 5, ground := Ground.phase }, { on := 6, ground := Ground.phase }, { on := 7, ground := Ground.phase }, { on := 8, ground := Ground.phase }, { on := 9, ground := Ground.phase }, { on := 10, ground := Ground.phase }, { on := 11, ground := Ground.phase }, { on := 12, ground := Ground.phase }, { on := 13, ground := Ground.phase }, { on := 14, ground := Ground.phase }], guard := none } : Oper)) (v := ?_) rfl (by kernel_rfl) (by kernel_rfl) (by kernel_rfl) (fun _ _ _ h => h) (Or.inl ⟨by rfl, ?_⟩) (by assumption) ?_
                  rotate_left
                  · (intro wz hSw; (try dsimp only at hSw); go_simp; try with_reducible rfl)
                  simp only [Act.put, List.setIfInBounds_toArray, List.set_cons_zero, List.set_cons_succ]
                  refine wpAnyH_ready (rs := [16]) (by kernel_rfl) (by simp) ?_
                  refine AllReadyH.cons (o := ({ dst := none, op := Op.store 23 (Operand.tmp 60) (Operand.tmp 59), type := 0, pos := "state.go:83", after := #[{ on := 15, ground := Ground.data }, { on := 14, ground := Ground.data }, { on := 14, ground := Ground.chain }, { on := 0, ground := Ground.phase }, { on := 1, ground := Ground.phase }, { on := 2, ground := Ground.phase }, { on := 3, ground := Ground.phase }, { on := 4, ground := Ground.phase }, { on := 5, ground := Ground.phase }, { on := 6, ground := Ground.phase }, { on := 7, ground := Ground.phase }, { on := 8, ground := Ground.phase }, { on := 9, ground := Ground.phase }, { on := 10, ground := Ground.phase }, { on := 11, ground := Ground.phase }, { on := 12, ground := Ground.phase }, { on := 13, ground := Ground.phase }, { on := 14, ground := Ground.phase }], guard := none } : Oper)) rfl (fun K hK => ?_) AllReadyH.nil
                  · have zb := (L2.out.boxR hg3.out).1
                    have zf := (L2.out.boxR hg3.out).2
                    have z0 := zb.c0
                    have z1 := zb.c1
                    have z2 := zb.c2
                    have y0 := zf.f0
                    have y1 := zf.f1
                    have y2 := zf.f2
                    clear zb zf
                    go_simp
                    have L4 := hide (L2.out.appR (by decide) I2.out hO3.out hg3.out)
                    have b4 := hide (b3.out.setCell (p := ⟨q2, 2, none⟩) (Nat.le_refl _) (.slice a3 (es.length + 1) c3))
                    refine hK.out _ _ (HS.out _ b4.out) (fun hH4 => ?_)
                    clear hK K z0 z1 z2 y0 y1 y2
                    obtain ⟨w4, hw4⟩ : ∃ z9, z9 = w3.setCell ⟨q2, 2, none⟩ (.slice a3 (es.length + 1) c3) := ⟨_, rfl⟩
                    rw [← hw4] at hH4 L4 b4  ⊢
                    clear hw4
                    refine wpAnyH_done (by kernel_rfl) ?_ _
                    go_wp2_with fail
                    exact ⟨⟨k + 1, _, _, _, by simp, by omega, ⟨⟨KW.out.1.of (b4.out.block q0 FQ.out.1), KW.out.2.1.of (b4.out.block q1 FQ.out.2.1), KW.out.2.2.1.of (b4.out.block q5 FQ.out.2.2.1), KW.out.2.2.2.of (b4.out.block q5 FQ.out.2.2.1)⟩, by rw [HT1.out, HT2.out]; exact L4.out, BW.out.trans (b4.out.mono FQ.out.2.2.2.1)⟩⟩, by simp [intOf]; omega⟩
          · go_simp
            go_at_call 87
            refine (bunion_own l m ai aj ci cj _ (HI.out _ b0.out) (HJ.out _ b0.out) HLM.out.1 HLM.out.2.1 HLM.out.2.2.1 HLM.out.2.2.2.1 HLM.out.2.2.2.2).mono ?_
            rintro e w1 ⟨ax, cx, rfl, hS⟩
            have hb1 := hS.bel
            have L1 := hide (L0.out.of hb1)
            have b1 := hide (b0.out.trans (hb1.mono (Nat.le_of_lt L0.out.bx.lt)))
            have I1 := hide (hS.owi (Nat.succ_le_of_lt L0.out.bx.lt))
            refine hK.out _ _ (HS.out _ b1.out) (fun hH1 => ?_)
            clear hK K hb1 hS
            refine wpAnyH_ready (rs := [1, 13]) (by kernel_rfl) (by simp) ?_
            refine AllReadyH.cons (o := ({ dst := some 46, op := Op.load 23 (Operand.tmp 45), type := 23, pos := "state.go:83", after := #[{ on := 0, ground := Ground.data }], guard := none } : Oper)) rfl (fun K hK => ?_) (AllReadyH.cons (o := ({ dst := some 58, op := Op.buildSlice 23 1 #[(0, Operand.tmp 57)], type := 23, pos := "state.go:83", after := #[{ on := 12, ground := Ground.data }], guard := none } : Oper)) rfl (fun K hK => ?_) AllReadyH.nil)
            · have zc := L1.out.bx.c2
              go_simp
              refine hK.out _ _ hH1 (fun _ => ?_)
              clear hK K zc
              refine wpAnyH_ready (rs := [13]) (by kernel_rfl) (by simp) ?_
              refine AllReadyH.cons (o := ({ dst := some 58, op := Op.buildSlice 23 1 #[(0, Operand.tmp 57)], type := 23, pos := "state.go:83", after := #[{ on := 12, ground := Ground.data }], guard := none } : Oper)) rfl (fun K hK => ?_) AllReadyH.nil
              · go_simp
                have hb2 : Below w1.heap.size w1 (w1.alloc (.cells #[(.slice ax (uniL l m).length cx)] 38)) := (Below.refl _ _).alloc (Nat.le_refl _) _
                have L2 := hide (L1.out.of hb2)
                have b2 := hide (b1.out.trans (hb2.mono (Nat.le_of_lt L1.out.bx.lt)))
                have I2 := hide (I1.out.keep hb2)
                have Y2 := hide (C1.new w1 (.slice ax (uniL l m).length cx) 38)
                refine hK.out _ _ (HS.out _ b2.out) (fun hH2 => ?_)
                clear hK K hb2
                obtain ⟨w2, hw2⟩ : ∃ z9, z9 = (w1.alloc (.cells #[(.slice ax (uniL l m).length cx)] 38)) := ⟨_, rfl⟩
                rw [← hw2] at hH2 L2 b2 Y2 I2 ⊢
                clear hw2
                generalize w1.heap.size = nc at *
                refine wpAnyH_ready (rs := [14]) (by kernel_rfl) (by simp) ?_
                refine AllReadyH.cons (o := ({ dst := some 59, op := Op.call { callee := Callee.builtin Builtin.append, args := #[Operand.tmp 46, Operand.tmp 58], argTypes := #[23, 23] }, type := 23, pos := "state.go:83", after := #[{ on := 1, ground := Ground.data }, { on := 13, ground := Ground.data }, { on := 12, ground := Ground.chain }], guard := none } : Oper)) rfl (fun K hK => ?_) AllReadyH.nil
                · refine wp_appR' w2 (q2 + 1) (.tmp 46) (.tmp 58) rfl _ es (.slice ax (uniL l m).length cx) nc rfl L2.out.os Y2.out.c rfl rfl ?_ (Nat.succ_le_of_lt L2.out.bx.lt) ?_
                  · (have t1 := L2.out.inn.1; have t2 := HTL.out; dsimp only at t1; omega)
                  intro a3 c3 w3 hO3 hg3
                  have b3 := hide (L2.out.belR b2.out hg3)
                  refine hK.out _ _ (HS.out _ b3.out) (fun hH3 => ?_)
                  clear hK K
                  replace hO3 := hide hO3
                  replace hg3 := hide hg3
                  refine wpAnyH_take (i := 15) (oi := ({ dst := some 60, op := Op.fieldAddr 29 (Operand.tmp 7) 2, type := 0, pos := "state.go:83", after := #[{ on := 0, ground := Ground.phase }, { on := 1, ground := Ground.phase }, { on := 2, ground := Ground.phase }, { on := 3, ground := Ground.phase }, { on := 4, ground := Ground.phase }, { on := 5, ground := Ground.phase }, { on := 6, ground := Ground.phase }, { on := 7, ground := Ground.phase }, { on := 8, ground := Ground.phase }, { on := 9, ground := Ground.phase }, { on := 10, ground := Ground.phase }, { on := 11, ground := Ground.phase }, { on := 12, ground := Ground.phase }, { on := 13, ground := Ground.phase }, { on := 14, ground := Ground.phase }], guard := none } : Oper)) (v := ?_) rfl (by kernel_rfl) (by kernel_rfl) (by kernel_rfl) (fun _ _ _ h => h) (Or.inl ⟨by rfl, ?_⟩) (by assumption) ?_
                  rotate_left
                  · (intro wz hSw; (try dsimp only at hSw); go_simp; try with_reducible rfl)
                  simp only [Act.put, List.setIfInBounds_toArray, List.set_cons_zero, List.set_cons_succ]
                  refine wpAnyH_ready (rs := [16]) (by kernel_rfl) (by simp) ?_
                  refine AllReadyH.cons (o := ({ dst := none, op := Op.store 23 (Operand.tmp 60) (Operand.tmp 59), type := 0, pos := "state.go:83", after := #[{ on := 15, ground := Ground.data }, { on := 14, ground := Ground.data }, { on := 14, ground := Ground.chain }, { on := 0, ground := Ground.phase }, { on := 1, ground := Ground.phase }, { on := 2, ground := Ground.phase }, { on := 3, ground := Ground.phase }, { on := 4, ground := Ground.phase }, { on := 5, ground := Ground.phase }, { on := 6, ground := Ground.phase }, { on := 7, ground := Ground.phase }, { on := 8, ground := Ground.phase }, { on := 9, ground := Ground.phase }, { on := 10, ground := Ground.phase }, { on := 11, ground := Ground.phase }, { on := 12, ground := Ground.phase }, { on := 13, ground := Ground.phase }, { on := 14, ground := Ground.phase }], guard := none } : Oper)) rfl (fun K hK => ?_) AllReadyH.nil
                  · have zb := (L2.out.boxR hg3.out).1
                    have zf := (L2.out.boxR hg3.out).2
                    have z0 := zb.c0
                    have z1 := zb.c1
                    have z2 := zb.c2
                    have y0 := zf.f0
                    have y1 := zf.f1
                    have y2 := zf.f2
                    clear zb zf
                    go_simp
                    have L4 := hide (L2.out.appR (by decide) I2.out hO3.out hg3.out)
                    have b4 := hide (b3.out.setCell (p := ⟨q2, 2, none⟩) (Nat.le_refl _) (.slice a3 (es.length + 1) c3))
                    refine hK.out _ _ (HS.out _ b4.out) (fun hH4 => ?_)
                    clear hK K z0 z1 z2 y0 y1 y2
                    obtain ⟨w4, hw4⟩ : ∃ z9, z9 = w3.setCell ⟨q2, 2, none⟩ (.slice a3 (es.length + 1) c3) := ⟨_, rfl⟩
                    rw [← hw4] at hH4 L4 b4  ⊢
                    clear hw4
                    refine wpAnyH_done (by kernel_rfl) ?_ _
                    go_wp2_with fail
                    exact ⟨⟨k + 1, _, _, _, by simp, by omega, ⟨⟨KW.out.1.of (b4.out.block q0 FQ.out.1), KW.out.2.1.of (b4.out.block q1 FQ.out.2.1), KW.out.2.2.1.of (b4.out.block q5 FQ.out.2.2.1), KW.out.2.2.2.of (b4.out.block q5 FQ.out.2.2.1)⟩, by rw [HT1.out, HT2.out]; exact L4.out, BW.out.trans (b4.out.mono FQ.out.2.2.2.1)⟩⟩, by simp [intOf]; omega⟩
            · go_simp
              have hb2 : Below w1.heap.size w1 (w1.alloc (.cells #[(.slice ax (uniL l m).length cx)] 38)) := (Below.refl _ _).alloc (Nat.le_refl _) _
              have L2 := hide (L1.out.of hb2)
              have b2 := hide (b1.out.trans (hb2.mono (Nat.le_of_lt L1.out.bx.lt)))
              have I2 := hide (I1.out.keep hb2)
              have Y2 := hide (C1.new w1 (.slice ax (uniL l m).length cx) 38)
              refine hK.out _ _ (HS.out _ b2.out) (fun hH2 => ?_)
              clear hK K hb2
              obtain ⟨w2, hw2⟩ : ∃ z9, z9 = (w1.alloc (.cells #[(.slice ax (uniL l m).length cx)] 38)) := ⟨_, rfl⟩
              rw [← hw2] at hH2 L2 b2 Y2 I2 ⊢
              clear hw2
              generalize w1.heap.size = nc at *
              refine wpAnyH_ready (rs := [1]) (by kernel_rfl) (by simp) ?_
              refine AllReadyH.cons (o := ({ dst := some 46, op := Op.load 23 (Operand.tmp 45), type := 23, pos := "state.go:83", after := #[{ on := 0, ground := Ground.data }], guard := none } : Oper)) rfl (fun K hK => ?_) AllReadyH.nil
              · have zc := L2.out.bx.c2
                go_simp
                refine hK.out _ _ hH2 (fun _ => ?_)
                clear hK K zc
                refine wpAnyH_ready (rs := [14]) (by kernel_rfl) (by simp) ?_
                refine AllReadyH.cons (o := ({ dst := some 59, op := Op.call { callee := Callee.builtin Builtin.append, args := #[Operand.tmp 46, Operand.tmp 58], argTypes := #[23, 23] }, type := 23, pos := "state.go:83", after := #[{ on := 1, ground := Ground.data }, { on := 13, ground := Ground.data }, { on := 12, ground := Ground.chain }], guard := none } : Oper)) rfl (fun K hK => ?_) AllReadyH.nil
                · refine wp_appR' w2 (q2 + 1) (.tmp 46) (.tmp 58) rfl _ es (.slice ax (uniL l m).length cx) nc rfl L2.out.os Y2.out.c rfl rfl ?_ (Nat.succ_le_of_lt L2.out.bx.lt) ?_
                  · (have t1 := L2.out.inn.1; have t2 := HTL.out; dsimp only at t1; omega)
                  intro a3 c3 w3 hO3 hg3
                  have b3 := hide (L2.out.belR b2.out hg3)
                  refine hK.out _ _ (HS.out _ b3.out) (fun hH3 => ?_)
                  clear hK K
                  replace hO3 := hide hO3
                  replace hg3 := hide hg3
                  refine wpAnyH_take (i := 15) (oi := ({ dst := some 60, op := Op.fieldAddr 29 (Operand.tmp 7) 2, type := 0, pos := "state.go:83", after := #[{ on := 0, ground := Ground.phase }, { on := 1, ground := Ground.phase }, { on := 2, ground := Ground.phase }, { on := 3, ground := Ground.phase }, { on := 4, ground := Ground.phase }, { on := 5, ground := Ground.phase }, { on := 6, ground := Ground.phase }, { on := 7, ground := Ground.phase }, { on := 8, ground := Ground.phase }, { on := 9, ground := Ground.phase }, { on := 10, ground := Ground.phase }, { on := 11, ground := Ground.phase }, { on := 12, ground := Ground.phase }, { on := 13, ground := Ground.phase }, { on := 14, ground := Ground.phase }], guard := none } : Oper)) (v := ?_) rfl (by kernel_rfl) (by kernel_rfl) (by kernel_rfl) (fun _ _ _ h => h) (Or.inl ⟨by rfl, ?_⟩) (by assumption) ?_
                  rotate_left
                  · (intro wz hSw; (try dsimp only at hSw); go_simp; try with_reducible rfl)
                  simp only [Act.put, List.setIfInBounds_toArray, List.set_cons_zero, List.set_cons_succ]
                  refine wpAnyH_ready (rs := [16]) (by kernel_rfl) (by simp) ?_
                  refine AllReadyH.cons (o := ({ dst := none, op := Op.store 23 (Operand.tmp 60) (Operand.tmp 59), type := 0, pos := "state.go:83", after := #[{ on := 15, ground := Ground.data }, { on := 14, ground := Ground.data }, { on := 14, ground := Ground.chain }, { on := 0, ground := Ground.phase }, { on := 1, ground := Ground.phase }, { on := 2, ground := Ground.phase }, { on := 3, ground := Ground.phase }, { on := 4, ground := Ground.phase }, { on := 5, ground := Ground.phase }, { on := 6, ground := Ground.phase }, { on := 7, ground := Ground.phase }, { on := 8, ground := Ground.phase }, { on := 9, ground := Ground.phase }, { on := 10, ground := Ground.phase }, { on := 11, ground := Ground.phase }, { on := 12, ground := Ground.phase }, { on := 13, ground := Ground.phase }, { on := 14, ground := Ground.phase }], guard := none } : Oper)) rfl (fun K hK => ?_) AllReadyH.nil
                  · have zb := (L2.out.boxR hg3.out).1
                    have zf := (L2.out.boxR hg3.out).2
                    have z0 := zb.c0
                    have z1 := zb.c1
                    have z2 := zb.c2
                    have y0 := zf.f0
                    have y1 := zf.f1
                    have y2 := zf.f2
                    clear zb zf
                    go_simp
                    have L4 := hide (L2.out.appR (by decide) I2.out hO3.out hg3.out)
                    have b4 := hide (b3.out.setCell (p := ⟨q2, 2, none⟩) (Nat.le_refl _) (.slice a3 (es.length + 1) c3))
                    refine hK.out _ _ (HS.out _ b4.out) (fun hH4 => ?_)
                    clear hK K z0 z1 z2 y0 y1 y2
                    obtain ⟨w4, hw4⟩ : ∃ z9, z9 = w3.setCell ⟨q2, 2, none⟩ (.slice a3 (es.length + 1) c3) := ⟨_, rfl⟩
                    rw [← hw4] at hH4 L4 b4  ⊢
                    clear hw4
                    refine wpAnyH_done (by kernel_rfl) ?_ _
                    go_wp2_with fail
                    exact ⟨⟨k + 1, _, _, _, by simp, by omega, ⟨⟨KW.out.1.of (b4.out.block q0 FQ.out.1), KW.out.2.1.of (b4.out.block q1 FQ.out.2.1), KW.out.2.2.1.of (b4.out.block q5 FQ.out.2.2.1), KW.out.2.2.2.of (b4.out.block q5 FQ.out.2.2.1)⟩, by rw [HT1.out, HT2.out]; exact L4.out, BW.out.trans (b4.out.mono FQ.out.2.2.2.1)⟩⟩, by simp [intOf]; omega⟩
      · have hke : k = M := by omega
        subst hke
        have z1 : List.zipWith joinV (us.take k) (us2.take k) = List.zipWith joinV us us2 := by
          rw [← List.take_zipWith, List.take_of_length_le (by rw [List.length_zipWith]; have := HM.out; omega)]
        have z2 : List.zipWith uniL (ss.take k) (ss2.take k) = List.zipWith uniL ss ss2 := by
          rw [← List.take_zipWith, List.take_of_length_le (by rw [List.length_zipWith]; have := HM.out; have := HLS.out; omega)]
        rw [z1, z2] at h4
        clear z1 z2
        obtain ⟨PV, hPV⟩ : ∃ z9, z9 = (List.zipWith joinV us us2).map V.raw := ⟨_, rfl⟩
        obtain ⟨TS, hTS⟩ : ∃ z9, z9 = List.zipWith uniL ss ss2 := ⟨_, rfl⟩
        rw [← hPV, ← hTS] at h4
        have HPV := hide hPV
        have HTS := hide hTS
        clear hPV hTS
        obtain ⟨a7, c7, rfl, -, -⟩ := h4.out.2.1.ov.slice
        obtain ⟨a8, c8, rfl, -, -⟩ := h4.out.2.1.os.slice
        have e0 := h4.out.2.1.bx.c0
        have e1 := h4.out.2.1.bx.c1
        have e2 := h4.out.2.1.bx.c2
        have g0 := h4.out.1.2.2.1.c0
        have g1 := h4.out.1.2.2.1.c1
        have g2 := h4.out.1.2.2.1.c2
        have f0 := h4.out.1.2.2.2.f0
        have f1 := h4.out.1.2.2.2.f1
        have f2 := h4.out.1.2.2.2.f2
        have G1 := hide (h4.out.2.1.fin h4.out.1.2.2.1 (Nat.lt_succ_of_lt FQ.out.2.2.1) (Nat.ne_of_lt FQ.out.2.2.1) h4.out.2.2 FQ.out.2.2.2.2)
        clear h4
        go_wp2_with fail
        have y0 := G1.out.1.c0
        have y1 := G1.out.1.c1
        have y2 := G1.out.1.c2
        clear e0 e1 e2 g0 g1 g2 f0 f1 f2
        exact bodyPost_ret (by simp [results, Try.results43, go_sem, y0, y1, y2]; try rfl) rfl ⟨_, rfl, by rw [← HTS.out, show List.zipWith (fun x y => (joinV x y).raw) us us2 = PV from by rw [HPV.out, List.map_zipWith]]; exact G1.out.2.1, G1.out.2.2⟩
end Go.Proofs.Ytmhicllhjiglkaa
