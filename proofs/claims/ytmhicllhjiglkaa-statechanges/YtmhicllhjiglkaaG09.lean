import Derived.Test.YtmhicllhjiglkaaG04
import Derived.Test.YtmhicllhjiglkaaG08
import Derived.Deep.RegionHeld3
import Derived.Test.YtmhicllhjiglkaaG00
import Derived.Test.YtmhicllhjiglkaaG03
namespace Go.Proofs.Ytmhicllhjiglkaa
open Go.RowKit
theorem count_any (r : Bool) (a b : Option Addr) (n c d : Nat) (w : World) :
    Calls Try.prog 86 #[.agg #[.bool r, .slice a n c, .slice b n d]] w fun e w' => e = .returned (.int .i64 (n : Int)) ∧ Below w.heap.size w w' := by
  go_enter Try.func86, Try.ntmps86
  go_wp2
  go_ret
  exact ⟨by simp, (Below.refl _ _).alloc (Nat.le_refl _) _⟩
set_option maxRecDepth 100000 in
set_option maxHeartbeats 8000000 in
theorem together_j (a b a2 b2 : Option Addr) (c d c2 d2 : Nat) (us us2 : List V) (ss ss2 : List (List Int)) (w : World) (hv : RV w a (us.map V.raw)) (hs : RR w b ss) (hv2 : RV w a2 (us2.map V.raw)) (hs2 : RR w b2 ss2)
    (hg : ∀ u ∈ us, u.p &&& 3 = u.p) (hg2 : ∀ u ∈ us2, u.p &&& 3 = u.p) (hl : us.length ≤ 1000) (hl2 : us2.length ≤ 1000) (hls : ss.length = us.length) (hls2 : ss2.length = us2.length) (hl3 : ∀ l ∈ ss, l.length ≤ 10000) (hl4 : ∀ l ∈ ss2, l.length ≤ 10000) :
    Calls Try.prog 43 #[.agg #[.bool true, .slice a us.length c, .slice b ss.length d], .agg #[.bool true, .slice a2 us2.length c2, .slice b2 ss2.length d2], .func (.func 44) #[] #[]] w fun e w' => ∃ v, e = .returned v ∧ Rn w' w.heap.size v ⟨true, (List.zipWith joinV us us2).map V.raw, List.zipWith uniL ss ss2⟩ ∧ Below w.heap.size w w' := by
  have HV := hide hv
  have HR := hide hs
  have HV2 := hide hv2
  have HR2 := hide hs2
  have HG := hide (And.intro hg hg2)
  have HL := hide (And.intro hl3 hl4)
  have HLS := hide (And.intro hls hls2)
  have i1 : (us.length : Int) ≤ 1000 := by omega
  have i2 : (us2.length : Int) ≤ 1000 := by omega
  clear hv hs hv2 hs2 hg hg2 hl3 hl4 hls hls2
  obtain ⟨M, hM⟩ : ∃ M, M = min us.length us2.length := ⟨_, rfl⟩
  have hmin : min (us.length : Int) (us2.length : Int) = (M : Int) := by rw [hM]; omega
  have HM := hide hM
  have iM : (M : Int) ≤ 1000 := by omega
  clear hM
  go_enter Try.func43, Try.ntmps43
  go_upto_region 5 with fail
  go_name_world W0 hW0
  obtain ⟨q5, h5⟩ : ∃ z9, z9 = w.heap.size + 1 + 1 := ⟨_, rfl⟩
  rw [← h5]
  obtain ⟨q1, h1⟩ : ∃ z9, z9 = w.heap.size + 1 := ⟨_, rfl⟩
  rw [← h1]
  obtain ⟨q0, h0⟩ : ∃ z9, z9 = w.heap.size := ⟨_, rfl⟩
  rw [← h0]
  have HW0 : Hid ((Bs W0 q0 true (.slice a us.length c) (.slice b ss.length d) ∧ Bs W0 q1 true (.slice a2 us2.length c2) (.slice b2 ss2.length d2) ∧ Bs W0 q5 false (.slice none 0 0) (.slice none 0 0) ∧ Fs W0 q5) ∧ Below w.heap.size w W0) := by
    unfold Hid
    rw [h5, h1, h0]
    obtain ⟨B0, -, B1, -, B2, F2, u⟩ := boxes3 w _ _ _ _ _ _ _ _ _ _ _ _ W0 hW0
    exact ⟨⟨B0, B1, B2, F2⟩, u⟩
  have HQ : Hid (q0 < q5 ∧ q1 < q5 ∧ w.heap.size ≤ q5) := hide (by omega)
  clear hW0 h5 h1 h0
  go_upto_region 6 with fail
  go_name_world W hW
  obtain ⟨q2, hq2⟩ : ∃ z9, z9 = W0.heap.size := ⟨_, rfl⟩
  rw [← hq2]
  have HW : Hid ((Bs W q0 true (.slice a us.length c) (.slice b ss.length d) ∧ Bs W q1 true (.slice a2 us2.length c2) (.slice b2 ss2.length d2) ∧ Bs W q5 false (.slice none 0 0) (.slice none 0 0) ∧ Fs W q5) ∧ Lo W (q2 + 1) q2 53 ⟨true, [], []⟩ (.slice none 0 0) (.slice none 0 0) [] ∧ Below w.heap.size w W) := by
    unfold Hid
    rw [hq2]
    obtain ⟨B0, F0, u⟩ := box1 W0 _ _ _ _ W hW
    have t := HW0.out.1
    exact ⟨⟨t.1.keep u, t.2.1.keep u, t.2.2.1.keep u, t.2.2.2.of (u.block q5 t.2.2.1.lt)⟩, Lo.start _ B0 F0 (Nat.lt_succ_self _), HW0.out.2.trans (u.mono HW0.out.2.size)⟩
  have FQ : Hid (q0 < q2 ∧ q1 < q2 ∧ q5 < q2 ∧ w.heap.size ≤ q2 ∧ w.heap.size ≤ q5) := by
    have := HW0.out.1.2.2.1.lt
    have := HQ.out
    unfold Hid
    omega
  clear hW hq2 HW0 HQ
  have HS : Hid (∀ w', Below W.heap.size W w' → (w'.cell? ⟨q0, 0, none⟩ = some (.bool true) ∧ w'.cell? ⟨q0, 1, none⟩ = some (.slice a us.length c) ∧ w'.cell? ⟨q0, 2, none⟩ = some (.slice b ss.length d) ∧ w'.cell? ⟨q1, 0, none⟩ = some (.bool true) ∧ w'.cell? ⟨q1, 1, none⟩ = some (.slice a2 us2.length c2) ∧ w'.cell? ⟨q1, 2, none⟩ = some (.slice b2 ss2.length d2))) := fun w' h => by
    have t0 := HW.out.1.1.keep h
    have t1 := HW.out.1.2.1.keep h
    exact ⟨t0.c0, t0.c1, t0.c2, t1.c0, t1.c1, t1.c2⟩
  have cC1 : ∀ w, Calls Try.prog 86 #[.agg #[.bool true, .slice a us.length c, .slice b ss.length d]] w fun e w' => e = .returned (.int .i64 (us.length : Int)) ∧ Below w.heap.size w w' := fun w => by
    rw [HLS.out.1]; exact count_any true a b us.length c d w
  have cC2 : ∀ w, Calls Try.prog 86 #[.agg #[.bool true, .slice a2 us2.length c2, .slice b2 ss2.length d2]] w fun e w' => e = .returned (.int .i64 (us2.length : Int)) ∧ Below w.heap.size w w' := fun w => by
    rw [HLS.out.2]; exact count_any true a2 b2 us2.length c2 d2 w
  go_cut [24, 25] (fun s24 s25 wx => s24 = .int .i64 M ∧ s25 = .int .i64 0 ∧ Hid (Below W.heap.size W wx))
  case first =>
    refine wp_region_held_drew (S := fun w' => w'.cell? ⟨q0, 0, none⟩ = some (.bool true) ∧ w'.cell? ⟨q0, 1, none⟩ = some (.slice a us.length c) ∧ w'.cell? ⟨q0, 2, none⟩ = some (.slice b ss.length d) ∧ w'.cell? ⟨q1, 0, none⟩ = some (.bool true) ∧ w'.cell? ⟨q1, 1, none⟩ = some (.slice a2 us2.length c2) ∧ w'.cell? ⟨q1, 2, none⟩ = some (.slice b2 ss2.length d2)) (by kernel_rfl) (HS.out _ (Below.refl _ _).drew) (fun hH0 => ?_)
    obtain ⟨w0, hw0⟩ : ∃ w0, w0 = W.drew := ⟨_, rfl⟩
    (try rw [← hw0] at hH0)
    rw [← hw0]
    have b0 : Hid (Below W.heap.size W w0) := hw0 ▸ hide (Below.refl _ _).drew
    clear hw0
    refine wpAnyH_take (i := 0) (oi := ({ dst := some 20, op := Op.load 29 (Operand.tmp 3), type := 29, pos := _, after := _, guard := _ } : Oper)) (v := ?_) rfl (by kernel_rfl) (by kernel_rfl) (by kernel_rfl) (fun _ _ _ h => h) (Or.inl ⟨by rfl, ?_⟩) (by assumption) ?_
    rotate_left
    · (intro wz hSw; (try dsimp only at hSw); go_simp; try with_reducible rfl)
    simp only [Act.put, List.setIfInBounds_toArray, List.set_cons_zero, List.set_cons_succ]
    refine wpAnyH_take (i := 2) (oi := ({ dst := some 22, op := Op.load 29 (Operand.tmp 4), type := 29, pos := _, after := _, guard := _ } : Oper)) (v := ?_) rfl (by kernel_rfl) (by kernel_rfl) (by kernel_rfl) (fun _ _ _ h => h) (Or.inl ⟨by rfl, ?_⟩) (by assumption) ?_
    rotate_left
    · (intro wz hSw; (try dsimp only at hSw); go_simp; try with_reducible rfl)
    simp only [Act.put, List.setIfInBounds_toArray, List.set_cons_zero, List.set_cons_succ]
    refine wpAnyH_take (i := 5) (oi := ({ dst := some 25, op := Op.move (Operand.const (Value.int IntKind.i64 0)), type := 3, pos := _, after := _, guard := _ } : Oper)) (v := ?_) rfl (by kernel_rfl) (by kernel_rfl) (by kernel_rfl) (fun _ _ _ h => h) (Or.inl ⟨by rfl, ?_⟩) (by assumption) ?_
    rotate_left
    · (intro wz hSw; (try dsimp only at hSw); go_simp; try with_reducible rfl)
    simp only [Act.put, List.setIfInBounds_toArray, List.set_cons_zero, List.set_cons_succ]
    refine wpAnyH_ready (rs := [1]) (by kernel_rfl) (by simp) ?_
    refine AllReadyH.cons (o := ({ dst := some 21, op := Op.call { callee := Callee.value (Operand.func 86), args := #[Operand.tmp 20], argTypes := #[29] }, type := 3, pos := _, after := _, guard := _ } : Oper)) rfl (fun K hK => ?_) AllReadyH.nil
    · go_simp
      go_at_call 86
      refine (cC1 _).mono ?_
      rintro e w1 ⟨rfl, hb1⟩
      have b1 := hide (b0.out.trans (hb1.mono b0.out.size))
      refine hK.out _ _ (HS.out _ b1.out) (fun hH1 => ?_)
      clear hK K hb1
      refine wpAnyH_ready (rs := [3]) (by kernel_rfl) (by simp) ?_
      refine AllReadyH.cons (o := ({ dst := some 23, op := Op.call { callee := Callee.value (Operand.func 86), args := #[Operand.tmp 22], argTypes := #[29] }, type := 3, pos := _, after := _, guard := _ } : Oper)) rfl (fun K hK => ?_) AllReadyH.nil
      · go_simp
        go_at_call 86
        refine (cC2 _).mono ?_
        rintro e w2 ⟨rfl, hb2⟩
        have b2 := hide (b1.out.trans (hb2.mono b1.out.size))
        refine hK.out _ _ (HS.out _ b2.out) (fun hH2 => ?_)
        clear hK K hb2
        refine wpAnyH_take (i := 4) (oi := ({ dst := some 24, op := Op.call { callee := Callee.builtin Builtin.min, args := #[Operand.tmp 21, Operand.tmp 23], argTypes := #[3, 3] }, type := 3, pos := _, after := _, guard := _ } : Oper)) (v := ?_) rfl (by kernel_rfl) (by kernel_rfl) (by kernel_rfl) (fun _ _ _ h => h) (Or.inl ⟨by rfl, ?_⟩) (by assumption) ?_
        rotate_left
        · (intro wz hSw; (try dsimp only at hSw); go_simp; try with_reducible rfl)
        simp only [Act.put, List.setIfInBounds_toArray, List.set_cons_zero, List.set_cons_succ]
        refine wpAnyH_done (by kernel_rfl) ?_ _
        go_wp2_with fail
        all_goals (go_meet; exact ⟨by congr 1; have := HM.out; omega, rfl, hide b2.out⟩)
  case rest =>
    obtain ⟨rfl, rfl, hbc⟩ := hcut
    have H1 : Hid ((Bs wc q0 true (.slice a us.length c) (.slice b ss.length d) ∧ Bs wc q1 true (.slice a2 us2.length c2) (.slice b2 ss2.length d2) ∧ Bs wc q5 false (.slice none 0 0) (.slice none 0 0) ∧ Fs wc q5) ∧ Lo wc (q2 + 1) q2 53 ⟨true, [], []⟩ (.slice none 0 0) (.slice none 0 0) [] ∧ Below w.heap.size w wc) := by
      have u := hbc.out
      have t := HW.out.1
      exact ⟨⟨t.1.keep u, t.2.1.keep u, t.2.2.1.keep u, t.2.2.2.of (u.block q5 t.2.2.1.lt)⟩, HW.out.2.1.of u, HW.out.2.2.trans (u.mono HW.out.2.2.size)⟩
    clear HS HW hbc hmin cC1 cC2
    go_wp2_with fail
    go_loopw [25] (fun s25 wr => ∃ (k : Nat) (va sa : Value) (es : List Value), s25 = .int .i64 k ∧ k ≤ M ∧ Hid ((Bs wr q0 true (.slice a us.length c) (.slice b ss.length d) ∧ Bs wr q1 true (.slice a2 us2.length c2) (.slice b2 ss2.length d2) ∧ Bs wr q5 false (.slice none 0 0) (.slice none 0 0) ∧ Fs wr q5) ∧ Lo wr (q2 + 1) q2 53 ⟨true, (List.zipWith joinV (us.take k) (us2.take k)).map V.raw, List.zipWith uniL (ss.take k) (ss2.take k)⟩ va sa es ∧ Below w.heap.size w wr)) (fun s25 _ => M - (intOf s25).toNat)
    case atStart => exact ⟨0, _, _, _, rfl, Nat.zero_le _, H1.out⟩
    case round =>
      obtain ⟨k, va, sa, es, rfl, hk, h4⟩ := hrel
      clear H1
      by_cases hkM : k < M
      · have hkM2 : (k : Int) < M := by omega
        have j1 : k < us.length := by have := HM.out; omega
        have j2 : k < us2.length := by have := HM.out; omega
        have j3 : (k : Int) < us.length := by omega
        have j4 : (k : Int) < us2.length := by omega
        have j5 : k < ss.length := by have := HLS.out; omega
        have j6 : k < ss2.length := by have := HLS.out; omega
        have j7 : (k : Int) < ss.length := by omega
        have j8 : (k : Int) < ss2.length := by omega
        obtain ⟨b1, o1, x0, hX, rfl, hx6⟩ := HV.out.at (m := k) (by rw [List.length_map]; exact j1)
        obtain ⟨b3, o3, y0, hY, rfl, hy6⟩ := HV2.out.at (m := k) (by rw [List.length_map]; exact j2)
        obtain ⟨b6, o6, l, ai, ci, hL, rfl, f1, f2, f3, f4⟩ := HR.out.at j5
        obtain ⟨b7, o7, m, aj, cj, hL2, rfl, f5, f6, f7, f8⟩ := HR2.out.at j6
        obtain ⟨x, hxk, rfl⟩ : ∃ x, us[k]? = some x ∧ x.raw = x0 := by rw [List.getElem?_map, Option.map_eq_some_iff] at hX; exact hX
        obtain ⟨y, hyk, rfl⟩ : ∃ y, us2[k]? = some y ∧ y.raw = y0 := by rw [List.getElem?_map, Option.map_eq_some_iff] at hY; exact hY
        have hxm : x ∈ us := List.mem_of_getElem? hxk
        have hym : y ∈ us2 := List.mem_of_getElem? hyk
        have HT1 : Hid ((List.zipWith joinV (us.take (k + 1)) (us2.take (k + 1))).map V.raw = (List.zipWith joinV (us.take k) (us2.take k)).map V.raw ++ [(joinV x y).raw]) := hide (by
          rw [take_more hxk, take_more hyk, List.zipWith_append (by rw [List.length_take, List.length_take]; omega), List.map_append]; rfl)
        have HT2 : Hid (List.zipWith uniL (ss.take (k + 1)) (ss2.take (k + 1)) = List.zipWith uniL (ss.take k) (ss2.take k) ++ [uniL l m]) := hide (by
          rw [take_more hL, take_more hL2, List.zipWith_append (by rw [List.length_take, List.length_take]; omega)]; rfl)
        have HLM : Hid (l.length + m.length ≤ 100000 ∧ l.length ≤ ci ∧ m.length ≤ cj ∧ (ai = none → ci = 0) ∧ (aj = none → cj = 0)) := hide ⟨by have := HL.out.1 l (List.mem_of_getElem? hL); have := HL.out.2 m (List.mem_of_getElem? hL2); omega, f3, f7, f4, f8⟩
        have cG := fun w => join_V x y w (HG.out.1 x hxm) (HG.out.2 y hym)
        generalize joinV x y = u at *
        obtain ⟨pv, hpv⟩ : ∃ z9, z9 = (List.zipWith joinV (us.take k) (us2.take k)).map V.raw := ⟨_, rfl⟩
        have hlv : pv.length ≤ 1000000 := by rw [hpv, List.length_map, List.length_zipWith, List.length_take]; omega
        obtain ⟨ts, hts⟩ : ∃ z9, z9 = List.zipWith uniL (ss.take k) (ss2.take k) := ⟨_, rfl⟩
        have HTL : Hid (ts.length ≤ 1000000) := hide (by rw [hts, List.length_zipWith, List.length_take]; omega)
        rw [← hpv, ← hts] at h4
        rw [← hpv] at HT1
        rw [← hts] at HT2
        have H6 := hide (And.intro hx6 hy6)
        have H7 := hide (And.intro f1 (And.intro f2 (And.intro f5 f6)))
        clear hX hY hx6 hy6 hL hL2 f1 f2 f3 f4 f5 f6 f7 f8 hxk hyk hxm hym hpv hts
        go_upto_region 9 with fail
        go_name_world W9 hW9
        rw [hW9] at h4
        clear hW9
        have KW : Hid (Bs W9 q0 true (.slice (some ⟨b1, o1, none⟩) us.length c) (.slice (some ⟨b6, o6, none⟩) ss.length d) ∧ Bs W9 q1 true (.slice (some ⟨b3, o3, none⟩) us2.length c2) (.slice (some ⟨b7, o7, none⟩) ss2.length d2) ∧ Bs W9 q5 false (.slice none 0 0) (.slice none 0 0) ∧ Fs W9 q5) := hide h4.out.1
        have LW := hide h4.out.2.1
        have BW := hide h4.out.2.2
        clear h4
        have HS : Hid (∀ w', Below q2 W9 w' → (w'.cell? ⟨q0, 1, none⟩ = some (.slice (some ⟨b1, o1, none⟩) us.length c) ∧ w'.cell? ⟨q1, 1, none⟩ = some (.slice (some ⟨b3, o3, none⟩) us2.length c2) ∧ w'.cell? ⟨b1, o1 + k * 6, none⟩ = some (.int .i64 (up x.s)) ∧ w'.cell? ⟨b1, o1 + k * 6 + 1, none⟩ = some (.bool x.k) ∧ w'.cell? ⟨b1, o1 + k * 6 + 2, none⟩ = some (.int .i64 x.n) ∧ w'.cell? ⟨b1, o1 + k * 6 + 3, none⟩ = some (.int .i64 x.lo) ∧ w'.cell? ⟨b1, o1 + k * 6 + 4, none⟩ = some (.int .i64 x.hi) ∧ w'.cell? ⟨b1, o1 + k * 6 + 5, none⟩ = some (.int .i64 (up x.p)) ∧ w'.cell? ⟨b3, o3 + k * 6, none⟩ = some (.int .i64 (up y.s)) ∧ w'.cell? ⟨b3, o3 + k * 6 + 1, none⟩ = some (.bool y.k) ∧ w'.cell? ⟨b3, o3 + k * 6 + 2, none⟩ = some (.int .i64 y.n) ∧ w'.cell? ⟨b3, o3 + k * 6 + 3, none⟩ = some (.int .i64 y.lo) ∧ w'.cell? ⟨b3, o3 + k * 6 + 4, none⟩ = some (.int .i64 y.hi) ∧ w'.cell? ⟨b3, o3 + k * 6 + 5, none⟩ = some (.int .i64 (up y.p)))) := fun w' h => by
          have t := H6.out.1.keep (BW.out.trans (h.mono FQ.out.2.2.2.1))
          have t2 := H6.out.2.keep (BW.out.trans (h.mono FQ.out.2.2.2.1))
          exact ⟨(h.cell (p := ⟨q0, 1, none⟩) FQ.out.1).trans KW.out.1.c1, (h.cell (p := ⟨q1, 1, none⟩) FQ.out.2.1).trans KW.out.2.1.c1, t.c0, t.c1, t.c2, t.c3, t.c4, t.c5, t2.c0, t2.c1, t2.c2, t2.c3, t2.c4, t2.c5⟩
        go_cut [8] (fun s8 wx => s8 = .int .i64 k ∧ ∃ va, Hid ((Bs wx q0 true (.slice (some ⟨b1, o1, none⟩) us.length c) (.slice (some ⟨b6, o6, none⟩) ss.length d) ∧ Bs wx q1 true (.slice (some ⟨b3, o3, none⟩) us2.length c2) (.slice (some ⟨b7, o7, none⟩) ss2.length d2) ∧ Bs wx q5 false (.slice none 0 0) (.slice none 0 0) ∧ Fs wx q5) ∧ (∃ tv, tv = pv ++ [u.raw] ∧ Lo wx (q2 + 1) q2 53 ⟨true, tv, ts⟩ va sa es) ∧ Below w.heap.size w wx))
        case first =>
          refine wp_region_held_drew (S := fun w' => w'.cell? ⟨q0, 1, none⟩ = some (.slice (some ⟨b1, o1, none⟩) us.length c) ∧ w'.cell? ⟨q1, 1, none⟩ = some (.slice (some ⟨b3, o3, none⟩) us2.length c2) ∧ w'.cell? ⟨b1, o1 + k * 6, none⟩ = some (.int .i64 (up x.s)) ∧ w'.cell? ⟨b1, o1 + k * 6 + 1, none⟩ = some (.bool x.k) ∧ w'.cell? ⟨b1, o1 + k * 6 + 2, none⟩ = some (.int .i64 x.n) ∧ w'.cell? ⟨b1, o1 + k * 6 + 3, none⟩ = some (.int .i64 x.lo) ∧ w'.cell? ⟨b1, o1 + k * 6 + 4, none⟩ = some (.int .i64 x.hi) ∧ w'.cell? ⟨b1, o1 + k * 6 + 5, none⟩ = some (.int .i64 (up x.p)) ∧ w'.cell? ⟨b3, o3 + k * 6, none⟩ = some (.int .i64 (up y.s)) ∧ w'.cell? ⟨b3, o3 + k * 6 + 1, none⟩ = some (.bool y.k) ∧ w'.cell? ⟨b3, o3 + k * 6 + 2, none⟩ = some (.int .i64 y.n) ∧ w'.cell? ⟨b3, o3 + k * 6 + 3, none⟩ = some (.int .i64 y.lo) ∧ w'.cell? ⟨b3, o3 + k * 6 + 4, none⟩ = some (.int .i64 y.hi) ∧ w'.cell? ⟨b3, o3 + k * 6 + 5, none⟩ = some (.int .i64 (up y.p))) (by kernel_rfl) (HS.out _ (Below.refl _ _).drew) (fun hH0 => ?_)
          obtain ⟨w0, hw0⟩ : ∃ w0, w0 = W9.drew := ⟨_, rfl⟩
          (try rw [← hw0] at hH0)
          rw [← hw0]
          have L0 : Hid (Lo w0 (q2 + 1) q2 53 ⟨true, pv, ts⟩ va sa es) := hw0 ▸ hide (LW.out.of (Below.refl _ _).drew)
          have b0 : Hid (Below q2 W9 w0) := hw0 ▸ hide (Below.refl _ _).drew
          clear hw0
          refine wpAnyH_take (i := 0) (oi := ({ dst := some 28, op := Op.fieldAddr 29 (Operand.tmp 7) 1, type := 0, pos := _, after := _, guard := _ } : Oper)) (v := ?_) rfl (by kernel_rfl) (by kernel_rfl) (by kernel_rfl) (fun _ _ _ h => h) (Or.inl ⟨by rfl, ?_⟩) (by assumption) ?_
          rotate_left
          · (intro wz hSw; (try dsimp only at hSw); go_simp; try with_reducible rfl)
          simp only [Act.put, List.setIfInBounds_toArray, List.set_cons_zero, List.set_cons_succ]
          refine wpAnyH_take (i := 2) (oi := ({ dst := some 30, op := Op.move (Operand.tmp 2), type := 84, pos := _, after := _, guard := _ } : Oper)) (v := ?_) rfl (by kernel_rfl) (by kernel_rfl) (by kernel_rfl) (fun _ _ _ h => h) (Or.inl ⟨by rfl, ?_⟩) (by assumption) ?_
          rotate_left
          · (intro wz hSw; (try dsimp only at hSw); go_simp; try with_reducible rfl)
          simp only [Act.put, List.setIfInBounds_toArray, List.set_cons_zero, List.set_cons_succ]
          refine wpAnyH_take (i := 3) (oi := ({ dst := some 31, op := Op.fieldAddr 29 (Operand.tmp 3) 1, type := 0, pos := _, after := _, guard := _ } : Oper)) (v := ?_) rfl (by kernel_rfl) (by kernel_rfl) (by kernel_rfl) (fun _ _ _ h => h) (Or.inl ⟨by rfl, ?_⟩) (by assumption) ?_
          rotate_left
          · (intro wz hSw; (try dsimp only at hSw); go_simp; try with_reducible rfl)
          simp only [Act.put, List.setIfInBounds_toArray, List.set_cons_zero, List.set_cons_succ]
          refine wpAnyH_take (i := 4) (oi := ({ dst := some 32, op := Op.load 27 (Operand.tmp 31), type := 27, pos := _, after := _, guard := _ } : Oper)) (v := ?_) rfl (by kernel_rfl) (by kernel_rfl) (by kernel_rfl) (fun _ _ _ h => h) (Or.inl ⟨by rfl, ?_⟩) (by assumption) ?_
          rotate_left
          · (intro wz hSw; (try dsimp only at hSw); go_simp; try with_reducible rfl)
          simp only [Act.put, List.setIfInBounds_toArray, List.set_cons_zero, List.set_cons_succ]
          refine wpAnyH_take (i := 5) (oi := ({ dst := some 33, op := Op.move (Operand.tmp 8), type := 3, pos := _, after := _, guard := _ } : Oper)) (v := ?_) rfl (by kernel_rfl) (by kernel_rfl) (by kernel_rfl) (fun _ _ _ h => h) (Or.inl ⟨by rfl, ?_⟩) (by assumption) ?_
          rotate_left
          · (intro wz hSw; (try dsimp only at hSw); go_simp; try with_reducible rfl)
          simp only [Act.put, List.setIfInBounds_toArray, List.set_cons_zero, List.set_cons_succ]
          refine wpAnyH_take (i := 6) (oi := ({ dst := some 34, op := Op.indexAddr 27 (Operand.tmp 32) (Operand.tmp 33), type := 0, pos := _, after := _, guard := _ } : Oper)) (v := ?_) rfl (by kernel_rfl) (by kernel_rfl) (by kernel_rfl) (fun _ _ _ h => h) (Or.inl ⟨by rfl, ?_⟩) (by assumption) ?_
          rotate_left
          · (intro wz hSw; (try dsimp only at hSw); go_simp; try with_reducible rfl)
          simp only [Act.put, List.setIfInBounds_toArray, List.set_cons_zero, List.set_cons_succ]
          refine wpAnyH_take (i := 7) (oi := ({ dst := some 35, op := Op.load 53 (Operand.tmp 34), type := 53, pos := _, after := _, guard := _ } : Oper)) (v := ?_) rfl (by kernel_rfl) (by kernel_rfl) (by kernel_rfl) (fun _ _ _ h => h) (Or.inl ⟨by rfl, ?_⟩) (by assumption) ?_
          rotate_left
          · (intro wz hSw; (try dsimp only at hSw); go_simp; try with_reducible rfl)
          simp only [Act.put, List.setIfInBounds_toArray, List.set_cons_zero, List.set_cons_succ]
          refine wpAnyH_take (i := 8) (oi := ({ dst := some 36, op := Op.fieldAddr 29 (Operand.tmp 4) 1, type := 0, pos := _, after := _, guard := _ } : Oper)) (v := ?_) rfl (by kernel_rfl) (by kernel_rfl) (by kernel_rfl) (fun _ _ _ h => h) (Or.inl ⟨by rfl, ?_⟩) (by assumption) ?_
          rotate_left
          · (intro wz hSw; (try dsimp only at hSw); go_simp; try with_reducible rfl)
          simp only [Act.put, List.setIfInBounds_toArray, List.set_cons_zero, List.set_cons_succ]
          refine wpAnyH_take (i := 9) (oi := ({ dst := some 37, op := Op.load 27 (Operand.tmp 36), type := 27, pos := _, after := _, guard := _ } : Oper)) (v := ?_) rfl (by kernel_rfl) (by kernel_rfl) (by kernel_rfl) (fun _ _ _ h => h) (Or.inl ⟨by rfl, ?_⟩) (by assumption) ?_
          rotate_left
          · (intro wz hSw; (try dsimp only at hSw); go_simp; try with_reducible rfl)
          simp only [Act.put, List.setIfInBounds_toArray, List.set_cons_zero, List.set_cons_succ]
          refine wpAnyH_take (i := 10) (oi := ({ dst := some 38, op := Op.move (Operand.tmp 8), type := 3, pos := _, after := _, guard := _ } : Oper)) (v := ?_) rfl (by kernel_rfl) (by kernel_rfl) (by kernel_rfl) (fun _ _ _ h => h) (Or.inl ⟨by rfl, ?_⟩) (by assumption) ?_
          rotate_left
          · (intro wz hSw; (try dsimp only at hSw); go_simp; try with_reducible rfl)
          simp only [Act.put, List.setIfInBounds_toArray, List.set_cons_zero, List.set_cons_succ]
          refine wpAnyH_take (i := 11) (oi := ({ dst := some 39, op := Op.indexAddr 27 (Operand.tmp 37) (Operand.tmp 38), type := 0, pos := _, after := _, guard := _ } : Oper)) (v := ?_) rfl (by kernel_rfl) (by kernel_rfl) (by kernel_rfl) (fun _ _ _ h => h) (Or.inl ⟨by rfl, ?_⟩) (by assumption) ?_
          rotate_left
          · (intro wz hSw; (try dsimp only at hSw); go_simp; try with_reducible rfl)
          simp only [Act.put, List.setIfInBounds_toArray, List.set_cons_zero, List.set_cons_succ]
          refine wpAnyH_take (i := 12) (oi := ({ dst := some 40, op := Op.load 53 (Operand.tmp 39), type := 53, pos := _, after := _, guard := _ } : Oper)) (v := ?_) rfl (by kernel_rfl) (by kernel_rfl) (by kernel_rfl) (fun _ _ _ h => h) (Or.inl ⟨by rfl, ?_⟩) (by assumption) ?_
          rotate_left
          · (intro wz hSw; (try dsimp only at hSw); go_simp; try with_reducible rfl)
          simp only [Act.put, List.setIfInBounds_toArray, List.set_cons_zero, List.set_cons_succ]
          refine wpAnyH_ready (rs := [1, 13]) (by kernel_rfl) (by simp) ?_
          refine AllReadyH.cons (o := ({ dst := some 29, op := Op.load 27 (Operand.tmp 28), type := 27, pos := _, after := _, guard := _ } : Oper)) rfl (fun K hK => ?_) (AllReadyH.cons (o := ({ dst := some 41, op := Op.call { callee := Callee.value (Operand.tmp 30), args := #[Operand.tmp 35, Operand.tmp 40], argTypes := #[53, 53] }, type := 53, pos := _, after := _, guard := _ } : Oper)) rfl (fun K hK => ?_) AllReadyH.nil)
          · have zc := L0.out.bx.c1
            go_simp
            refine hK.out _ _ hH0 (fun _ => ?_)
            clear hK K zc
            refine wpAnyH_ready (rs := [13]) (by kernel_rfl) (by simp) ?_
            refine AllReadyH.cons (o := ({ dst := some 41, op := Op.call { callee := Callee.value (Operand.tmp 30), args := #[Operand.tmp 35, Operand.tmp 40], argTypes := #[53, 53] }, type := 53, pos := _, after := _, guard := _ } : Oper)) rfl (fun K hK => ?_) AllReadyH.nil
            · go_simp
              go_at_call 44
              refine (cG _).mono ?_
              rintro e w1 ⟨rfl, hb1⟩
              have L1 := hide (L0.out.of hb1)
              have b1 := hide (b0.out.trans (hb1.mono (Nat.le_of_lt L0.out.bx.lt)))
              refine hK.out _ _ (HS.out _ b1.out) (fun hH1 => ?_)
              clear hK K hb1
              refine wpAnyH_ready (rs := [14]) (by kernel_rfl) (by simp) ?_
              refine AllReadyH.cons (o := ({ dst := some 42, op := Op.buildSlice 27 1 #[(0, Operand.tmp 41)], type := 27, pos := _, after := _, guard := _ } : Oper)) rfl (fun K hK => ?_) AllReadyH.nil
              · go_simp
                have hb2 : Below w1.heap.size w1 (w1.alloc (.cells #[.int .i64 (up u.s), .bool u.k, .int .i64 u.n, .int .i64 u.lo, .int .i64 u.hi, .int .i64 (up u.p)] 53)) := (Below.refl _ _).alloc (Nat.le_refl _) _
                have L2 := hide (L1.out.of hb2)
                have b2 := hide (b1.out.trans (hb2.mono (Nat.le_of_lt L1.out.bx.lt)))
                have Y2 := hide (B6.newV w1 u 53)
                refine hK.out _ _ (HS.out _ b2.out) (fun hH2 => ?_)
                clear hK K hb2
                obtain ⟨w2, hw2⟩ : ∃ z9, z9 = (w1.alloc (.cells #[.int .i64 (up u.s), .bool u.k, .int .i64 u.n, .int .i64 u.lo, .int .i64 u.hi, .int .i64 (up u.p)] 53)) := ⟨_, rfl⟩
                rw [← hw2] at hH2 L2 b2 Y2 ⊢
                clear hw2
                generalize w1.heap.size = nb at *
                refine wpAnyH_ready (rs := [15]) (by kernel_rfl) (by simp) ?_
                refine AllReadyH.cons (o := ({ dst := some 43, op := Op.call { callee := Callee.builtin Builtin.append, args := #[Operand.tmp 29, Operand.tmp 42], argTypes := #[27, 27] }, type := 27, pos := _, after := _, guard := _ } : Oper)) rfl (fun K hK => ?_) AllReadyH.nil
                · refine wp_appV' w2 (q2 + 1) 27 53 Try.underlying27 info53p (.tmp 29) (.tmp 42) rfl _ pv u.raw nb L2.out.ov Y2.out rfl rfl ?_ (Nat.succ_le_of_lt L2.out.bx.lt) ?_
                  · first | omega | (simp; omega)
                  intro a3 c3 w3 hO3 hg3
                  have b3 := hide (L2.out.belV b2.out hg3)
                  refine hK.out _ _ (HS.out _ b3.out) (fun hH3 => ?_)
                  clear hK K
                  replace hO3 := hide hO3
                  replace hg3 := hide hg3
                  refine wpAnyH_take (i := 16) (oi := ({ dst := some 44, op := Op.fieldAddr 29 (Operand.tmp 7) 1, type := 0, pos := _, after := _, guard := _ } : Oper)) (v := ?_) rfl (by kernel_rfl) (by kernel_rfl) (by kernel_rfl) (fun _ _ _ h => h) (Or.inl ⟨by rfl, ?_⟩) (by assumption) ?_
                  rotate_left
                  · (intro wz hSw; (try dsimp only at hSw); go_simp; try with_reducible rfl)
                  simp only [Act.put, List.setIfInBounds_toArray, List.set_cons_zero, List.set_cons_succ]
                  refine wpAnyH_ready (rs := [17]) (by kernel_rfl) (by simp) ?_
                  refine AllReadyH.cons (o := ({ dst := none, op := Op.store 27 (Operand.tmp 44) (Operand.tmp 43), type := 0, pos := _, after := _, guard := _ } : Oper)) rfl (fun K hK => ?_) AllReadyH.nil
                  · have zb := (L2.out.boxV hg3.out).1
                    have zf := (L2.out.boxV hg3.out).2
                    have z0 := zb.c0
                    have z1 := zb.c1
                    have z2 := zb.c2
                    have y0 := zf.f0
                    have y1 := zf.f1
                    have y2 := zf.f2
                    clear zb zf
                    go_simp
                    have L4 := hide (L2.out.appV (by decide) (by decide) hO3.out hg3.out)
                    have b4 := hide (b3.out.setCell (p := ⟨q2, 1, none⟩) (Nat.le_refl _) (.slice a3 (pv.length + 1) c3))
                    refine hK.out _ _ (HS.out _ b4.out) (fun hH4 => ?_)
                    clear hK K z0 z1 z2 y0 y1 y2
                    obtain ⟨w4, hw4⟩ : ∃ z9, z9 = w3.setCell ⟨q2, 1, none⟩ (.slice a3 (pv.length + 1) c3) := ⟨_, rfl⟩
                    rw [← hw4] at hH4 L4 b4  ⊢
                    clear hw4
                    refine wpAnyH_done (by kernel_rfl) ?_ _
                    go_wp2_with fail
                    go_meet
                    case rel => exact ⟨rfl, _, ⟨KW.out.1.of (b4.out.block q0 FQ.out.1), KW.out.2.1.of (b4.out.block q1 FQ.out.2.1), KW.out.2.2.1.of (b4.out.block q5 FQ.out.2.2.1), KW.out.2.2.2.of (b4.out.block q5 FQ.out.2.2.1)⟩, ⟨_, rfl, L4.out⟩, BW.out.trans (b4.out.mono FQ.out.2.2.2.1)⟩
          · go_simp
            go_at_call 44
            refine (cG _).mono ?_
            rintro e w1 ⟨rfl, hb1⟩
            have L1 := hide (L0.out.of hb1)
            have b1 := hide (b0.out.trans (hb1.mono (Nat.le_of_lt L0.out.bx.lt)))
            refine hK.out _ _ (HS.out _ b1.out) (fun hH1 => ?_)
            clear hK K hb1
            refine wpAnyH_ready (rs := [1, 14]) (by kernel_rfl) (by simp) ?_
            refine AllReadyH.cons (o := ({ dst := some 29, op := Op.load 27 (Operand.tmp 28), type := 27, pos := _, after := _, guard := _ } : Oper)) rfl (fun K hK => ?_) (AllReadyH.cons (o := ({ dst := some 42, op := Op.buildSlice 27 1 #[(0, Operand.tmp 41)], type := 27, pos := _, after := _, guard := _ } : Oper)) rfl (fun K hK => ?_) AllReadyH.nil)
            · have zc := L1.out.bx.c1
              go_simp
              refine hK.out _ _ hH1 (fun _ => ?_)
              clear hK K zc
              refine wpAnyH_ready (rs := [14]) (by kernel_rfl) (by simp) ?_
              refine AllReadyH.cons (o := ({ dst := some 42, op := Op.buildSlice 27 1 #[(0, Operand.tmp 41)], type := 27, pos := _, after := _, guard := _ } : Oper)) rfl (fun K hK => ?_) AllReadyH.nil
              · go_simp
                have hb2 : Below w1.heap.size w1 (w1.alloc (.cells #[.int .i64 (up u.s), .bool u.k, .int .i64 u.n, .int .i64 u.lo, .int .i64 u.hi, .int .i64 (up u.p)] 53)) := (Below.refl _ _).alloc (Nat.le_refl _) _
                have L2 := hide (L1.out.of hb2)
                have b2 := hide (b1.out.trans (hb2.mono (Nat.le_of_lt L1.out.bx.lt)))
                have Y2 := hide (B6.newV w1 u 53)
                refine hK.out _ _ (HS.out _ b2.out) (fun hH2 => ?_)
                clear hK K hb2
                obtain ⟨w2, hw2⟩ : ∃ z9, z9 = (w1.alloc (.cells #[.int .i64 (up u.s), .bool u.k, .int .i64 u.n, .int .i64 u.lo, .int .i64 u.hi, .int .i64 (up u.p)] 53)) := ⟨_, rfl⟩
                rw [← hw2] at hH2 L2 b2 Y2 ⊢
                clear hw2
                generalize w1.heap.size = nb at *
                refine wpAnyH_ready (rs := [15]) (by kernel_rfl) (by simp) ?_
                refine AllReadyH.cons (o := ({ dst := some 43, op := Op.call { callee := Callee.builtin Builtin.append, args := #[Operand.tmp 29, Operand.tmp 42], argTypes := #[27, 27] }, type := 27, pos := _, after := _, guard := _ } : Oper)) rfl (fun K hK => ?_) AllReadyH.nil
                · refine wp_appV' w2 (q2 + 1) 27 53 Try.underlying27 info53p (.tmp 29) (.tmp 42) rfl _ pv u.raw nb L2.out.ov Y2.out rfl rfl ?_ (Nat.succ_le_of_lt L2.out.bx.lt) ?_
                  · first | omega | (simp; omega)
                  intro a3 c3 w3 hO3 hg3
                  have b3 := hide (L2.out.belV b2.out hg3)
                  refine hK.out _ _ (HS.out _ b3.out) (fun hH3 => ?_)
                  clear hK K
                  replace hO3 := hide hO3
                  replace hg3 := hide hg3
                  refine wpAnyH_take (i := 16) (oi := ({ dst := some 44, op := Op.fieldAddr 29 (Operand.tmp 7) 1, type := 0, pos := _, after := _, guard := _ } : Oper)) (v := ?_) rfl (by kernel_rfl) (by kernel_rfl) (by kernel_rfl) (fun _ _ _ h => h) (Or.inl ⟨by rfl, ?_⟩) (by assumption) ?_
                  rotate_left
                  · (intro wz hSw; (try dsimp only at hSw); go_simp; try with_reducible rfl)
                  simp only [Act.put, List.setIfInBounds_toArray, List.set_cons_zero, List.set_cons_succ]
                  refine wpAnyH_ready (rs := [17]) (by kernel_rfl) (by simp) ?_
                  refine AllReadyH.cons (o := ({ dst := none, op := Op.store 27 (Operand.tmp 44) (Operand.tmp 43), type := 0, pos := _, after := _, guard := _ } : Oper)) rfl (fun K hK => ?_) AllReadyH.nil
                  · have zb := (L2.out.boxV hg3.out).1
                    have zf := (L2.out.boxV hg3.out).2
                    have z0 := zb.c0
                    have z1 := zb.c1
                    have z2 := zb.c2
                    have y0 := zf.f0
                    have y1 := zf.f1
                    have y2 := zf.f2
                    clear zb zf
                    go_simp
                    have L4 := hide (L2.out.appV (by decide) (by decide) hO3.out hg3.out)
                    have b4 := hide (b3.out.setCell (p := ⟨q2, 1, none⟩) (Nat.le_refl _) (.slice a3 (pv.length + 1) c3))
                    refine hK.out _ _ (HS.out _ b4.out) (fun hH4 => ?_)
                    clear hK K z0 z1 z2 y0 y1 y2
                    obtain ⟨w4, hw4⟩ : ∃ z9, z9 = w3.setCell ⟨q2, 1, none⟩ (.slice a3 (pv.length + 1) c3) := ⟨_, rfl⟩
                    rw [← hw4] at hH4 L4 b4  ⊢
                    clear hw4
                    refine wpAnyH_done (by kernel_rfl) ?_ _
                    go_wp2_with fail
                    go_meet
                    case rel => exact ⟨rfl, _, ⟨KW.out.1.of (b4.out.block q0 FQ.out.1), KW.out.2.1.of (b4.out.block q1 FQ.out.2.1), KW.out.2.2.1.of (b4.out.block q5 FQ.out.2.2.1), KW.out.2.2.2.of (b4.out.block q5 FQ.out.2.2.1)⟩, ⟨_, rfl, L4.out⟩, BW.out.trans (b4.out.mono FQ.out.2.2.2.1)⟩
            · go_simp
              have hb2 : Below w1.heap.size w1 (w1.alloc (.cells #[.int .i64 (up u.s), .bool u.k, .int .i64 u.n, .int .i64 u.lo, .int .i64 u.hi, .int .i64 (up u.p)] 53)) := (Below.refl _ _).alloc (Nat.le_refl _) _
              have L2 := hide (L1.out.of hb2)
              have b2 := hide (b1.out.trans (hb2.mono (Nat.le_of_lt L1.out.bx.lt)))
              have Y2 := hide (B6.newV w1 u 53)
              refine hK.out _ _ (HS.out _ b2.out) (fun hH2 => ?_)
              clear hK K hb2
              obtain ⟨w2, hw2⟩ : ∃ z9, z9 = (w1.alloc (.cells #[.int .i64 (up u.s), .bool u.k, .int .i64 u.n, .int .i64 u.lo, .int .i64 u.hi, .int .i64 (up u.p)] 53)) := ⟨_, rfl⟩
              rw [← hw2] at hH2 L2 b2 Y2 ⊢
              clear hw2
              generalize w1.heap.size = nb at *
              refine wpAnyH_ready (rs := [1]) (by kernel_rfl) (by simp) ?_
              refine AllReadyH.cons (o := ({ dst := some 29, op := Op.load 27 (Operand.tmp 28), type := 27, pos := _, after := _, guard := _ } : Oper)) rfl (fun K hK => ?_) AllReadyH.nil
              · have zc := L2.out.bx.c1
                go_simp
                refine hK.out _ _ hH2 (fun _ => ?_)
                clear hK K zc
                refine wpAnyH_ready (rs := [15]) (by kernel_rfl) (by simp) ?_
                refine AllReadyH.cons (o := ({ dst := some 43, op := Op.call { callee := Callee.builtin Builtin.append, args := #[Operand.tmp 29, Operand.tmp 42], argTypes := #[27, 27] }, type := 27, pos := _, after := _, guard := _ } : Oper)) rfl (fun K hK => ?_) AllReadyH.nil
                · refine wp_appV' w2 (q2 + 1) 27 53 Try.underlying27 info53p (.tmp 29) (.tmp 42) rfl _ pv u.raw nb L2.out.ov Y2.out rfl rfl ?_ (Nat.succ_le_of_lt L2.out.bx.lt) ?_
                  · first | omega | (simp; omega)
                  intro a3 c3 w3 hO3 hg3
                  have b3 := hide (L2.out.belV b2.out hg3)
                  refine hK.out _ _ (HS.out _ b3.out) (fun hH3 => ?_)
                  clear hK K
                  replace hO3 := hide hO3
                  replace hg3 := hide hg3
                  refine wpAnyH_take (i := 16) (oi := ({ dst := some 44, op := Op.fieldAddr 29 (Operand.tmp 7) 1, type := 0, pos := _, after := _, guard := _ } : Oper)) (v := ?_) rfl (by kernel_rfl) (by kernel_rfl) (by kernel_rfl) (fun _ _ _ h => h) (Or.inl ⟨by rfl, ?_⟩) (by assumption) ?_
                  rotate_left
                  · (intro wz hSw; (try dsimp only at hSw); go_simp; try with_reducible rfl)
                  simp only [Act.put, List.setIfInBounds_toArray, List.set_cons_zero, List.set_cons_succ]
                  refine wpAnyH_ready (rs := [17]) (by kernel_rfl) (by simp) ?_
                  refine AllReadyH.cons (o := ({ dst := none, op := Op.store 27 (Operand.tmp 44) (Operand.tmp 43), type := 0, pos := _, after := _, guard := _ } : Oper)) rfl (fun K hK => ?_) AllReadyH.nil
                  · have zb := (L2.out.boxV hg3.out).1
                    have zf := (L2.out.boxV hg3.out).2
                    have z0 := zb.c0
                    have z1 := zb.c1
                    have z2 := zb.c2
                    have y0 := zf.f0
                    have y1 := zf.f1
                    have y2 := zf.f2
                    clear zb zf
                    go_simp
                    have L4 := hide (L2.out.appV (by decide) (by decide) hO3.out hg3.out)
                    have b4 := hide (b3.out.setCell (p := ⟨q2, 1, none⟩) (Nat.le_refl _) (.slice a3 (pv.length + 1) c3))
                    refine hK.out _ _ (HS.out _ b4.out) (fun hH4 => ?_)
                    clear hK K z0 z1 z2 y0 y1 y2
                    obtain ⟨w4, hw4⟩ : ∃ z9, z9 = w3.setCell ⟨q2, 1, none⟩ (.slice a3 (pv.length + 1) c3) := ⟨_, rfl⟩
                    rw [← hw4] at hH4 L4 b4  ⊢
                    clear hw4
                    refine wpAnyH_done (by kernel_rfl) ?_ _
                    go_wp2_with fail
                    go_meet
                    case rel => exact ⟨rfl, _, ⟨KW.out.1.of (b4.out.block q0 FQ.out.1), KW.out.2.1.of (b4.out.block q1 FQ.out.2.1), KW.out.2.2.1.of (b4.out.block q5 FQ.out.2.2.1), KW.out.2.2.2.of (b4.out.block q5 FQ.out.2.2.1)⟩, ⟨_, rfl, L4.out⟩, BW.out.trans (b4.out.mono FQ.out.2.2.2.1)⟩
        case rest =>
          obtain ⟨rfl, va3, h8⟩ := hcut
          obtain ⟨tv, htv, hLo⟩ := h8.out.2.1
          rw [← htv] at HT1
          clear htv KW LW BW HS cG H6
          have KW0 := hide h8.out.1
          have LW0 := hide hLo
          have BW0 := hide h8.out.2.2
          clear h8 hLo
          go_upto_region 10 with fail
          go_name_world W10 hW10
          rw [hW10] at KW0 LW0 BW0
          clear hW10
          have KW : Hid (Bs W10 q0 true (.slice (some ⟨b1, o1, none⟩) us.length c) (.slice (some ⟨b6, o6, none⟩) ss.length d) ∧ Bs W10 q1 true (.slice (some ⟨b3, o3, none⟩) us2.length c2) (.slice (some ⟨b7, o7, none⟩) ss2.length d2) ∧ Bs W10 q5 false (.slice none 0 0) (.slice none 0 0) ∧ Fs W10 q5) := KW0
          have LW := LW0
          have BW := BW0
          clear KW0 LW0 BW0
          have HI : Hid (∀ w', Below q2 W10 w' → Ri w' ai l) := hide (fun w' h => H7.out.2.1.keep' (BW.out.trans (h.mono FQ.out.2.2.2.1)))
          have HJ : Hid (∀ w', Below q2 W10 w' → Ri w' aj m) := hide (fun w' h => H7.out.2.2.2.keep' (BW.out.trans (h.mono FQ.out.2.2.2.1)))
          have HS : Hid (∀ w', Below q2 W10 w' → (w'.cell? ⟨q0, 2, none⟩ = some (.slice (some ⟨b6, o6, none⟩) ss.length d) ∧ w'.cell? ⟨q1, 2, none⟩ = some (.slice (some ⟨b7, o7, none⟩) ss2.length d2) ∧ w'.cell? ⟨b6, o6 + k, none⟩ = some (.slice ai l.length ci) ∧ w'.cell? ⟨b7, o7 + k, none⟩ = some (.slice aj m.length cj))) := fun w' h => by
            have u := BW.out.trans (h.mono FQ.out.2.2.2.1)
            exact ⟨(h.cell (p := ⟨q0, 2, none⟩) FQ.out.1).trans KW.out.1.c2, (h.cell (p := ⟨q1, 2, none⟩) FQ.out.2.1).trans KW.out.2.1.c2, (u.cell (p := ⟨b6, o6 + k, none⟩) (World.block_lt_of_cell? w _ H7.out.1)).trans H7.out.1, (u.cell (p := ⟨b7, o7 + k, none⟩) (World.block_lt_of_cell? w _ H7.out.2.2.1)).trans H7.out.2.2.1⟩
          refine wp_region_held_drew (S := fun w' => w'.cell? ⟨q0, 2, none⟩ = some (.slice (some ⟨b6, o6, none⟩) ss.length d) ∧ w'.cell? ⟨q1, 2, none⟩ = some (.slice (some ⟨b7, o7, none⟩) ss2.length d2) ∧ w'.cell? ⟨b6, o6 + k, none⟩ = some (.slice ai l.length ci) ∧ w'.cell? ⟨b7, o7 + k, none⟩ = some (.slice aj m.length cj)) (by kernel_rfl) (HS.out _ (Below.refl _ _).drew) (fun hH0 => ?_)
          obtain ⟨w0, hw0⟩ : ∃ w0, w0 = W10.drew := ⟨_, rfl⟩
          (try rw [← hw0] at hH0)
          rw [← hw0]
          have L0 : Hid (Lo w0 (q2 + 1) q2 53 ⟨true, tv, ts⟩ va3 sa es) := hw0 ▸ hide (LW.out.of (Below.refl _ _).drew)
          have b0 : Hid (Below q2 W10 w0) := hw0 ▸ hide (Below.refl _ _).drew
          clear hw0
          refine wpAnyH_take (i := 0) (oi := ({ dst := some 45, op := Op.fieldAddr 29 (Operand.tmp 7) 2, type := 0, pos := _, after := _, guard := _ } : Oper)) (v := ?_) rfl (by kernel_rfl) (by kernel_rfl) (by kernel_rfl) (fun _ _ _ h => h) (Or.inl ⟨by rfl, ?_⟩) (by assumption) ?_
          rotate_left
          · (intro wz hSw; (try dsimp only at hSw); go_simp; try with_reducible rfl)
          simp only [Act.put, List.setIfInBounds_toArray, List.set_cons_zero, List.set_cons_succ]
          refine wpAnyH_take (i := 2) (oi := ({ dst := some 47, op := Op.fieldAddr 29 (Operand.tmp 3) 2, type := 0, pos := _, after := _, guard := _ } : Oper)) (v := ?_) rfl (by kernel_rfl) (by kernel_rfl) (by kernel_rfl) (fun _ _ _ h => h) (Or.inl ⟨by rfl, ?_⟩) (by assumption) ?_
          rotate_left
          · (intro wz hSw; (try dsimp only at hSw); go_simp; try with_reducible rfl)
          simp only [Act.put, List.setIfInBounds_toArray, List.set_cons_zero, List.set_cons_succ]
          refine wpAnyH_take (i := 3) (oi := ({ dst := some 48, op := Op.load 23 (Operand.tmp 47), type := 23, pos := _, after := _, guard := _ } : Oper)) (v := ?_) rfl (by kernel_rfl) (by kernel_rfl) (by kernel_rfl) (fun _ _ _ h => h) (Or.inl ⟨by rfl, ?_⟩) (by assumption) ?_
          rotate_left
          · (intro wz hSw; (try dsimp only at hSw); go_simp; try with_reducible rfl)
          simp only [Act.put, List.setIfInBounds_toArray, List.set_cons_zero, List.set_cons_succ]
          refine wpAnyH_take (i := 4) (oi := ({ dst := some 49, op := Op.move (Operand.tmp 8), type := 3, pos := _, after := _, guard := _ } : Oper)) (v := ?_) rfl (by kernel_rfl) (by kernel_rfl) (by kernel_rfl) (fun _ _ _ h => h) (Or.inl ⟨by rfl, ?_⟩) (by assumption) ?_
          rotate_left
          · (intro wz hSw; (try dsimp only at hSw); go_simp; try with_reducible rfl)
          simp only [Act.put, List.setIfInBounds_toArray, List.set_cons_zero, List.set_cons_succ]
          refine wpAnyH_take (i := 5) (oi := ({ dst := some 50, op := Op.indexAddr 23 (Operand.tmp 48) (Operand.tmp 49), type := 0, pos := _, after := _, guard := _ } : Oper)) (v := ?_) rfl (by kernel_rfl) (by kernel_rfl) (by kernel_rfl) (fun _ _ _ h => h) (Or.inl ⟨by rfl, ?_⟩) (by assumption) ?_
          rotate_left
          · (intro wz hSw; (try dsimp only at hSw); go_simp; try with_reducible rfl)
          simp only [Act.put, List.setIfInBounds_toArray, List.set_cons_zero, List.set_cons_succ]
          refine wpAnyH_take (i := 6) (oi := ({ dst := some 51, op := Op.load 38 (Operand.tmp 50), type := 38, pos := _, after := _, guard := _ } : Oper)) (v := ?_) rfl (by kernel_rfl) (by kernel_rfl) (by kernel_rfl) (fun _ _ _ h => h) (Or.inl ⟨by rfl, ?_⟩) (by assumption) ?_
          rotate_left
          · (intro wz hSw; (try dsimp only at hSw); go_simp; try with_reducible rfl)
          simp only [Act.put, List.setIfInBounds_toArray, List.set_cons_zero, List.set_cons_succ]
          refine wpAnyH_take (i := 7) (oi := ({ dst := some 52, op := Op.fieldAddr 29 (Operand.tmp 4) 2, type := 0, pos := _, after := _, guard := _ } : Oper)) (v := ?_) rfl (by kernel_rfl) (by kernel_rfl) (by kernel_rfl) (fun _ _ _ h => h) (Or.inl ⟨by rfl, ?_⟩) (by assumption) ?_
          rotate_left
          · (intro wz hSw; (try dsimp only at hSw); go_simp; try with_reducible rfl)
          simp only [Act.put, List.setIfInBounds_toArray, List.set_cons_zero, List.set_cons_succ]
          refine wpAnyH_take (i := 8) (oi := ({ dst := some 53, op := Op.load 23 (Operand.tmp 52), type := 23, pos := _, after := _, guard := _ } : Oper)) (v := ?_) rfl (by kernel_rfl) (by kernel_rfl) (by kernel_rfl) (fun _ _ _ h => h) (Or.inl ⟨by rfl, ?_⟩) (by assumption) ?_
          rotate_left
          · (intro wz hSw; (try dsimp only at hSw); go_simp; try with_reducible rfl)
          simp only [Act.put, List.setIfInBounds_toArray, List.set_cons_zero, List.set_cons_succ]
          refine wpAnyH_take (i := 9) (oi := ({ dst := some 54, op := Op.move (Operand.tmp 8), type := 3, pos := _, after := _, guard := _ } : Oper)) (v := ?_) rfl (by kernel_rfl) (by kernel_rfl) (by kernel_rfl) (fun _ _ _ h => h) (Or.inl ⟨by rfl, ?_⟩) (by assumption) ?_
          rotate_left
          · (intro wz hSw; (try dsimp only at hSw); go_simp; try with_reducible rfl)
          simp only [Act.put, List.setIfInBounds_toArray, List.set_cons_zero, List.set_cons_succ]
          refine wpAnyH_take (i := 10) (oi := ({ dst := some 55, op := Op.indexAddr 23 (Operand.tmp 53) (Operand.tmp 54), type := 0, pos := _, after := _, guard := _ } : Oper)) (v := ?_) rfl (by kernel_rfl) (by kernel_rfl) (by kernel_rfl) (fun _ _ _ h => h) (Or.inl ⟨by rfl, ?_⟩) (by assumption) ?_
          rotate_left
          · (intro wz hSw; (try dsimp only at hSw); go_simp; try with_reducible rfl)
          simp only [Act.put, List.setIfInBounds_toArray, List.set_cons_zero, List.set_cons_succ]
          refine wpAnyH_take (i := 11) (oi := ({ dst := some 56, op := Op.load 38 (Operand.tmp 55), type := 38, pos := _, after := _, guard := _ } : Oper)) (v := ?_) rfl (by kernel_rfl) (by kernel_rfl) (by kernel_rfl) (fun _ _ _ h => h) (Or.inl ⟨by rfl, ?_⟩) (by assumption) ?_
          rotate_left
          · (intro wz hSw; (try dsimp only at hSw); go_simp; try with_reducible rfl)
          simp only [Act.put, List.setIfInBounds_toArray, List.set_cons_zero, List.set_cons_succ]
          refine wpAnyH_ready (rs := [1, 12]) (by kernel_rfl) (by simp) ?_
          refine AllReadyH.cons (o := ({ dst := some 46, op := Op.load 23 (Operand.tmp 45), type := 23, pos := _, after := _, guard := _ } : Oper)) rfl (fun K hK => ?_) (AllReadyH.cons (o := ({ dst := some 57, op := Op.call { callee := Callee.value (Operand.func 87), args := #[Operand.tmp 51, Operand.tmp 56], argTypes := #[38, 38] }, type := 38, pos := _, after := _, guard := _ } : Oper)) rfl (fun K hK => ?_) AllReadyH.nil)
          · have zc := L0.out.bx.c2
            go_simp
            refine hK.out _ _ hH0 (fun _ => ?_)
            clear hK K zc
            refine wpAnyH_ready (rs := [12]) (by kernel_rfl) (by simp) ?_
            refine AllReadyH.cons (o := ({ dst := some 57, op := Op.call { callee := Callee.value (Operand.func 87), args := #[Operand.tmp 51, Operand.tmp 56], argTypes := #[38, 38] }, type := 38, pos := _, after := _, guard := _ } : Oper)) rfl (fun K hK => ?_) AllReadyH.nil
            · go_simp
              go_at_call 87
              refine (bunion_own l m ai aj ci cj _ (HI.out _ b0.out) (HJ.out _ b0.out) HLM.out.1 HLM.out.2.1 HLM.out.2.2.1 HLM.out.2.2.2.1 HLM.out.2.2.2.2).mono ?_
              rintro e w1 ⟨ax, cx, rfl, hS⟩
              have hb1 := hS.bel
              have L1 := hide (L0.out.of hb1)
              have b1 := hide (b0.out.trans (hb1.mono (Nat.le_of_lt L0.out.bx.lt)))
              have I1 := hide (hS.owi (Nat.succ_le_of_lt L0.out.bx.lt))
              refine hK.out _ _ (HS.out _ b1.out) (fun hH1 => ?_)
              clear hK K hb1 hS
              refine wpAnyH_ready (rs := [13]) (by kernel_rfl) (by simp) ?_
              refine AllReadyH.cons (o := ({ dst := some 58, op := Op.buildSlice 23 1 #[(0, Operand.tmp 57)], type := 23, pos := _, after := _, guard := _ } : Oper)) rfl (fun K hK => ?_) AllReadyH.nil
              · go_simp
                have hb2 : Below w1.heap.size w1 (w1.alloc (.cells #[(.slice ax (uniL l m).length cx)] 38)) := (Below.refl _ _).alloc (Nat.le_refl _) _
                have L2 := hide (L1.out.of hb2)
                have b2 := hide (b1.out.trans (hb2.mono (Nat.le_of_lt L1.out.bx.lt)))
                have I2 := hide (I1.out.keep hb2)
                have Y2 := hide (C1.new w1 (.slice ax (uniL l m).length cx) 38)
                refine hK.out _ _ (HS.out _ b2.out) (fun hH2 => ?_)
                clear hK K hb2
                obtain ⟨w2, hw2⟩ : ∃ z9, z9 = (w1.alloc (.cells #[(.slice ax (uniL l m).length cx)] 38)) := ⟨_, rfl⟩
                rw [← hw2] at hH2 L2 b2 Y2 I2 ⊢
                clear hw2
                generalize w1.heap.size = nc at *
                refine wpAnyH_ready (rs := [14]) (by kernel_rfl) (by simp) ?_
                refine AllReadyH.cons (o := ({ dst := some 59, op := Op.call { callee := Callee.builtin Builtin.append, args := #[Operand.tmp 46, Operand.tmp 58], argTypes := #[23, 23] }, type := 23, pos := _, after := _, guard := _ } : Oper)) rfl (fun K hK => ?_) AllReadyH.nil
                · refine wp_appR' w2 (q2 + 1) (.tmp 46) (.tmp 58) rfl _ es (.slice ax (uniL l m).length cx) nc rfl L2.out.os Y2.out.c rfl rfl ?_ (Nat.succ_le_of_lt L2.out.bx.lt) ?_
                  · (have t1 := L2.out.inn.1; have t2 := HTL.out; dsimp only at t1; omega)
                  intro a3 c3 w3 hO3 hg3
                  have b3 := hide (L2.out.belR b2.out hg3)
                  refine hK.out _ _ (HS.out _ b3.out) (fun hH3 => ?_)
                  clear hK K
                  replace hO3 := hide hO3
                  replace hg3 := hide hg3
                  refine wpAnyH_take (i := 15) (oi := ({ dst := some 60, op := Op.fieldAddr 29 (Operand.tmp 7) 2, type := 0, pos := _, after := _, guard := _ } : Oper)) (v := ?_) rfl (by kernel_rfl) (by kernel_rfl) (by kernel_rfl) (fun _ _ _ h => h) (Or.inl ⟨by rfl, ?_⟩) (by assumption) ?_
                  rotate_left
                  · (intro wz hSw; (try dsimp only at hSw); go_simp; try with_reducible rfl)
                  simp only [Act.put, List.setIfInBounds_toArray, List.set_cons_zero, List.set_cons_succ]
                  refine wpAnyH_ready (rs := [16]) (by kernel_rfl) (by simp) ?_
                  refine AllReadyH.cons (o := ({ dst := none, op := Op.store 23 (Operand.tmp 60) (Operand.tmp 59), type := 0, pos := _, after := _, guard := _ } : Oper)) rfl (fun K hK => ?_) AllReadyH.nil
                  · have zb := (L2.out.boxR hg3.out).1
                    have zf := (L2.out.boxR hg3.out).2
                    have z0 := zb.c0
                    have z1 := zb.c1
                    have z2 := zb.c2
                    have y0 := zf.f0
                    have y1 := zf.f1
                    have y2 := zf.f2
                    clear zb zf
                    go_simp
                    have L4 := hide (L2.out.appR (by decide) I2.out hO3.out hg3.out)
                    have b4 := hide (b3.out.setCell (p := ⟨q2, 2, none⟩) (Nat.le_refl _) (.slice a3 (es.length + 1) c3))
                    refine hK.out _ _ (HS.out _ b4.out) (fun hH4 => ?_)
                    clear hK K z0 z1 z2 y0 y1 y2
                    obtain ⟨w4, hw4⟩ : ∃ z9, z9 = w3.setCell ⟨q2, 2, none⟩ (.slice a3 (es.length + 1) c3) := ⟨_, rfl⟩
                    rw [← hw4] at hH4 L4 b4  ⊢
                    clear hw4
                    refine wpAnyH_done (by kernel_rfl) ?_ _
                    go_wp2_with fail
                    exact ⟨⟨k + 1, _, _, _, by simp, by omega, ⟨⟨KW.out.1.of (b4.out.block q0 FQ.out.1), KW.out.2.1.of (b4.out.block q1 FQ.out.2.1), KW.out.2.2.1.of (b4.out.block q5 FQ.out.2.2.1), KW.out.2.2.2.of (b4.out.block q5 FQ.out.2.2.1)⟩, by rw [HT1.out, HT2.out]; exact L4.out, BW.out.trans (b4.out.mono FQ.out.2.2.2.1)⟩⟩, by simp [intOf]; omega⟩
          · go_simp
            go_at_call 87
            refine (bunion_own l m ai aj ci cj _ (HI.out _ b0.out) (HJ.out _ b0.out) HLM.out.1 HLM.out.2.1 HLM.out.2.2.1 HLM.out.2.2.2.1 HLM.out.2.2.2.2).mono ?_
            rintro e w1 ⟨ax, cx, rfl, hS⟩
            have hb1 := hS.bel
            have L1 := hide (L0.out.of hb1)
            have b1 := hide (b0.out.trans (hb1.mono (Nat.le_of_lt L0.out.bx.lt)))
            have I1 := hide (hS.owi (Nat.succ_le_of_lt L0.out.bx.lt))
            refine hK.out _ _ (HS.out _ b1.out) (fun hH1 => ?_)
            clear hK K hb1 hS
            refine wpAnyH_ready (rs := [1, 13]) (by kernel_rfl) (by simp) ?_
            refine AllReadyH.cons (o := ({ dst := some 46, op := Op.load 23 (Operand.tmp 45), type := 23, pos := _, after := _, guard := _ } : Oper)) rfl (fun K hK => ?_) (AllReadyH.cons (o := ({ dst := some 58, op := Op.buildSlice 23 1 #[(0, Operand.tmp 57)], type := 23, pos := _, after := _, guard := _ } : Oper)) rfl (fun K hK => ?_) AllReadyH.nil)
            · have zc := L1.out.bx.c2
              go_simp
              refine hK.out _ _ hH1 (fun _ => ?_)
              clear hK K zc
              refine wpAnyH_ready (rs := [13]) (by kernel_rfl) (by simp) ?_
              refine AllReadyH.cons (o := ({ dst := some 58, op := Op.buildSlice 23 1 #[(0, Operand.tmp 57)], type := 23, pos := _, after := _, guard := _ } : Oper)) rfl (fun K hK => ?_) AllReadyH.nil
              · go_simp
                have hb2 : Below w1.heap.size w1 (w1.alloc (.cells #[(.slice ax (uniL l m).length cx)] 38)) := (Below.refl _ _).alloc (Nat.le_refl _) _
                have L2 := hide (L1.out.of hb2)
                have b2 := hide (b1.out.trans (hb2.mono (Nat.le_of_lt L1.out.bx.lt)))
                have I2 := hide (I1.out.keep hb2)
                have Y2 := hide (C1.new w1 (.slice ax (uniL l m).length cx) 38)
                refine hK.out _ _ (HS.out _ b2.out) (fun hH2 => ?_)
                clear hK K hb2
                obtain ⟨w2, hw2⟩ : ∃ z9, z9 = (w1.alloc (.cells #[(.slice ax (uniL l m).length cx)] 38)) := ⟨_, rfl⟩
                rw [← hw2] at hH2 L2 b2 Y2 I2 ⊢
                clear hw2
                generalize w1.heap.size = nc at *
                refine wpAnyH_ready (rs := [14]) (by kernel_rfl) (by simp) ?_
                refine AllReadyH.cons (o := ({ dst := some 59, op := Op.call { callee := Callee.builtin Builtin.append, args := #[Operand.tmp 46, Operand.tmp 58], argTypes := #[23, 23] }, type := 23, pos := _, after := _, guard := _ } : Oper)) rfl (fun K hK => ?_) AllReadyH.nil
                · refine wp_appR' w2 (q2 + 1) (.tmp 46) (.tmp 58) rfl _ es (.slice ax (uniL l m).length cx) nc rfl L2.out.os Y2.out.c rfl rfl ?_ (Nat.succ_le_of_lt L2.out.bx.lt) ?_
                  · (have t1 := L2.out.inn.1; have t2 := HTL.out; dsimp only at t1; omega)
                  intro a3 c3 w3 hO3 hg3
                  have b3 := hide (L2.out.belR b2.out hg3)
                  refine hK.out _ _ (HS.out _ b3.out) (fun hH3 => ?_)
                  clear hK K
                  replace hO3 := hide hO3
                  replace hg3 := hide hg3
                  refine wpAnyH_take (i := 15) (oi := ({ dst := some 60, op := Op.fieldAddr 29 (Operand.tmp 7) 2, type := 0, pos := _, after := _, guard := _ } : Oper)) (v := ?_) rfl (by kernel_rfl) (by kernel_rfl) (by kernel_rfl) (fun _ _ _ h => h) (Or.inl ⟨by rfl, ?_⟩) (by assumption) ?_
                  rotate_left
                  · (intro wz hSw; (try dsimp only at hSw); go_simp; try with_reducible rfl)
                  simp only [Act.put, List.setIfInBounds_toArray, List.set_cons_zero, List.set_cons_succ]
                  refine wpAnyH_ready (rs := [16]) (by kernel_rfl) (by simp) ?_
                  refine AllReadyH.cons (o := ({ dst := none, op := Op.store 23 (Operand.tmp 60) (Operand.tmp 59), type := 0, pos := _, after := _, guard := _ } : Oper)) rfl (fun K hK => ?_) AllReadyH.nil
                  · have zb := (L2.out.boxR hg3.out).1
                    have zf := (L2.out.boxR hg3.out).2
                    have z0 := zb.c0
                    have z1 := zb.c1
                    have z2 := zb.c2
                    have y0 := zf.f0
                    have y1 := zf.f1
                    have y2 := zf.f2
                    clear zb zf
                    go_simp
                    have L4 := hide (L2.out.appR (by decide) I2.out hO3.out hg3.out)
                    have b4 := hide (b3.out.setCell (p := ⟨q2, 2, none⟩) (Nat.le_refl _) (.slice a3 (es.length + 1) c3))
                    refine hK.out _ _ (HS.out _ b4.out) (fun hH4 => ?_)
                    clear hK K z0 z1 z2 y0 y1 y2
                    obtain ⟨w4, hw4⟩ : ∃ z9, z9 = w3.setCell ⟨q2, 2, none⟩ (.slice a3 (es.length + 1) c3) := ⟨_, rfl⟩
                    rw [← hw4] at hH4 L4 b4  ⊢
                    clear hw4
                    refine wpAnyH_done (by kernel_rfl) ?_ _
                    go_wp2_with fail
                    exact ⟨⟨k + 1, _, _, _, by simp, by omega, ⟨⟨KW.out.1.of (b4.out.block q0 FQ.out.1), KW.out.2.1.of (b4.out.block q1 FQ.out.2.1), KW.out.2.2.1.of (b4.out.block q5 FQ.out.2.2.1), KW.out.2.2.2.of (b4.out.block q5 FQ.out.2.2.1)⟩, by rw [HT1.out, HT2.out]; exact L4.out, BW.out.trans (b4.out.mono FQ.out.2.2.2.1)⟩⟩, by simp [intOf]; omega⟩
            · go_simp
              have hb2 : Below w1.heap.size w1 (w1.alloc (.cells #[(.slice ax (uniL l m).length cx)] 38)) := (Below.refl _ _).alloc (Nat.le_refl _) _
              have L2 := hide (L1.out.of hb2)
              have b2 := hide (b1.out.trans (hb2.mono (Nat.le_of_lt L1.out.bx.lt)))
              have I2 := hide (I1.out.keep hb2)
              have Y2 := hide (C1.new w1 (.slice ax (uniL l m).length cx) 38)
              refine hK.out _ _ (HS.out _ b2.out) (fun hH2 => ?_)
              clear hK K hb2
              obtain ⟨w2, hw2⟩ : ∃ z9, z9 = (w1.alloc (.cells #[(.slice ax (uniL l m).length cx)] 38)) := ⟨_, rfl⟩
              rw [← hw2] at hH2 L2 b2 Y2 I2 ⊢
              clear hw2
              generalize w1.heap.size = nc at *
              refine wpAnyH_ready (rs := [1]) (by kernel_rfl) (by simp) ?_
              refine AllReadyH.cons (o := ({ dst := some 46, op := Op.load 23 (Operand.tmp 45), type := 23, pos := _, after := _, guard := _ } : Oper)) rfl (fun K hK => ?_) AllReadyH.nil
              · have zc := L2.out.bx.c2
                go_simp
                refine hK.out _ _ hH2 (fun _ => ?_)
                clear hK K zc
                refine wpAnyH_ready (rs := [14]) (by kernel_rfl) (by simp) ?_
                refine AllReadyH.cons (o := ({ dst := some 59, op := Op.call { callee := Callee.builtin Builtin.append, args := #[Operand.tmp 46, Operand.tmp 58], argTypes := #[23, 23] }, type := 23, pos := _, after := _, guard := _ } : Oper)) rfl (fun K hK => ?_) AllReadyH.nil
                · refine wp_appR' w2 (q2 + 1) (.tmp 46) (.tmp 58) rfl _ es (.slice ax (uniL l m).length cx) nc rfl L2.out.os Y2.out.c rfl rfl ?_ (Nat.succ_le_of_lt L2.out.bx.lt) ?_
                  · (have t1 := L2.out.inn.1; have t2 := HTL.out; dsimp only at t1; omega)
                  intro a3 c3 w3 hO3 hg3
                  have b3 := hide (L2.out.belR b2.out hg3)
                  refine hK.out _ _ (HS.out _ b3.out) (fun hH3 => ?_)
                  clear hK K
                  replace hO3 := hide hO3
                  replace hg3 := hide hg3
                  refine wpAnyH_take (i := 15) (oi := ({ dst := some 60, op := Op.fieldAddr 29 (Operand.tmp 7) 2, type := 0, pos := _, after := _, guard := _ } : Oper)) (v := ?_) rfl (by kernel_rfl) (by kernel_rfl) (by kernel_rfl) (fun _ _ _ h => h) (Or.inl ⟨by rfl, ?_⟩) (by assumption) ?_
                  rotate_left
                  · (intro wz hSw; (try dsimp only at hSw); go_simp; try with_reducible rfl)
                  simp only [Act.put, List.setIfInBounds_toArray, List.set_cons_zero, List.set_cons_succ]
                  refine wpAnyH_ready (rs := [16]) (by kernel_rfl) (by simp) ?_
                  refine AllReadyH.cons (o := ({ dst := none, op := Op.store 23 (Operand.tmp 60) (Operand.tmp 59), type := 0, pos := _, after := _, guard := _ } : Oper)) rfl (fun K hK => ?_) AllReadyH.nil
                  · have zb := (L2.out.boxR hg3.out).1
                    have zf := (L2.out.boxR hg3.out).2
                    have z0 := zb.c0
                    have z1 := zb.c1
                    have z2 := zb.c2
                    have y0 := zf.f0
                    have y1 := zf.f1
                    have y2 := zf.f2
                    clear zb zf
                    go_simp
                    have L4 := hide (L2.out.appR (by decide) I2.out hO3.out hg3.out)
                    have b4 := hide (b3.out.setCell (p := ⟨q2, 2, none⟩) (Nat.le_refl _) (.slice a3 (es.length + 1) c3))
                    refine hK.out _ _ (HS.out _ b4.out) (fun hH4 => ?_)
                    clear hK K z0 z1 z2 y0 y1 y2
                    obtain ⟨w4, hw4⟩ : ∃ z9, z9 = w3.setCell ⟨q2, 2, none⟩ (.slice a3 (es.length + 1) c3) := ⟨_, rfl⟩
                    rw [← hw4] at hH4 L4 b4  ⊢
                    clear hw4
                    refine wpAnyH_done (by kernel_rfl) ?_ _
                    go_wp2_with fail
                    exact ⟨⟨k + 1, _, _, _, by simp, by omega, ⟨⟨KW.out.1.of (b4.out.block q0 FQ.out.1), KW.out.2.1.of (b4.out.block q1 FQ.out.2.1), KW.out.2.2.1.of (b4.out.block q5 FQ.out.2.2.1), KW.out.2.2.2.of (b4.out.block q5 FQ.out.2.2.1)⟩, by rw [HT1.out, HT2.out]; exact L4.out, BW.out.trans (b4.out.mono FQ.out.2.2.2.1)⟩⟩, by simp [intOf]; omega⟩
      · have hke : k = M := by omega
        subst hke
        have z1 : List.zipWith joinV (us.take k) (us2.take k) = List.zipWith joinV us us2 := by
          rw [← List.take_zipWith, List.take_of_length_le (by rw [List.length_zipWith]; have := HM.out; omega)]
        have z2 : List.zipWith uniL (ss.take k) (ss2.take k) = List.zipWith uniL ss ss2 := by
          rw [← List.take_zipWith, List.take_of_length_le (by rw [List.length_zipWith]; have := HM.out; have := HLS.out; omega)]
        rw [z1, z2] at h4
        clear z1 z2
        obtain ⟨PV, hPV⟩ : ∃ z9, z9 = (List.zipWith joinV us us2).map V.raw := ⟨_, rfl⟩
        obtain ⟨TS, hTS⟩ : ∃ z9, z9 = List.zipWith uniL ss ss2 := ⟨_, rfl⟩
        rw [← hPV, ← hTS] at h4
        have HPV := hide hPV
        have HTS := hide hTS
        clear hPV hTS
        obtain ⟨a7, c7, rfl, -, -⟩ := h4.out.2.1.ov.slice
        obtain ⟨a8, c8, rfl, -, -⟩ := h4.out.2.1.os.slice
        have e0 := h4.out.2.1.bx.c0
        have e1 := h4.out.2.1.bx.c1
        have e2 := h4.out.2.1.bx.c2
        have g0 := h4.out.1.2.2.1.c0
        have g1 := h4.out.1.2.2.1.c1
        have g2 := h4.out.1.2.2.1.c2
        have f0 := h4.out.1.2.2.2.f0
        have f1 := h4.out.1.2.2.2.f1
        have f2 := h4.out.1.2.2.2.f2
        have G1 := hide (h4.out.2.1.fin h4.out.1.2.2.1 (Nat.lt_succ_of_lt FQ.out.2.2.1) (Nat.ne_of_lt FQ.out.2.2.1) h4.out.2.2 FQ.out.2.2.2.2)
        clear h4
        go_wp2_with fail
        have y0 := G1.out.1.c0
        have y1 := G1.out.1.c1
        have y2 := G1.out.1.c2
        clear e0 e1 e2 g0 g1 g2 f0 f1 f2
        exact bodyPost_ret (by simp [results, Try.results43, go_sem, y0, y1, y2]; try rfl) rfl ⟨_, rfl, by rw [← HTS.out, show List.zipWith (fun x y => (joinV x y).raw) us us2 = PV from by rw [HPV.out, List.map_zipWith]]; exact G1.out.2.1, G1.out.2.2⟩
end Go.Proofs.Ytmhicllhjiglkaa
namespace Go.Proofs.Ytmhicllhjiglkaa
open Go.RowKit
set_option maxRecDepth 100000 in
set_option maxHeartbeats 4000000 in
theorem together_l (fv : Value) (a b a2 b2 : Option Addr) (c d c2 d2 : Nat) (r2 : Bool) (vs vs2 : List R) (ss ss2 : List (List Int)) (w : World) (hv : RV w a2 vs2) (hs : RR w b2 ss2) (hvc : vs2.length ≤ c2) (hva : a2 = none → c2 = 0) (hl1 : vs2.length ≤ 100000) (hl2 : ss2.length ≤ 100000) (hl3 : ∀ (m : Nat) (l : List Int), ss2[m]? = some l → l.length ≤ 100000) :
    Calls Try.prog 43 #[.agg #[.bool false, .slice a vs.length c, .slice b ss.length d], .agg #[.bool r2, .slice a2 vs2.length c2, .slice b2 ss2.length d2], fv] w fun e w' => ∃ v, e = .returned v ∧ Rn w' w.heap.size v ⟨r2, vs2, ss2⟩ ∧ Below w.heap.size w w' := by
  have cC : ∀ w', Below w.heap.size w w' → Calls Try.prog 22 #[.agg #[.bool r2, .slice a2 vs2.length c2, .slice b2 ss2.length d2]] w' fun e w'' => ∃ v, e = .returned v ∧ Rn w'' w'.heap.size v ⟨r2, vs2, ss2⟩ ∧ Below w'.heap.size w' w'' := fun w' h => copy_S a2 b2 c2 d2 r2 vs2 ss2 w' (hv.keep h) (hs.keep h) hvc hva hl1 hl2 hl3
  clear hv hs hvc hva hl1 hl2 hl3
  go_enter Try.func43, Try.ntmps43
  go_upto_region 1 with fail
  go_name_world W hW
  obtain ⟨q5, h5⟩ : ∃ z9, z9 = w.heap.size + 1 + 1 := ⟨_, rfl⟩
  rw [← h5]
  obtain ⟨q1, h1⟩ : ∃ z9, z9 = w.heap.size + 1 := ⟨_, rfl⟩
  rw [← h1]
  obtain ⟨q0, h0⟩ : ∃ z9, z9 = w.heap.size := ⟨_, rfl⟩
  rw [← h0]
  obtain ⟨B0, -, B1, -, B2, F2, u⟩ := boxes3 w _ _ _ _ _ _ _ _ _ _ _ _ W hW
  rw [← h0] at B0
  rw [← h1] at B1
  rw [← h5] at B2 F2
  have HB5 := hide (And.intro B2 F2)
  have HU := hide u
  have HQ5 : Hid (w.heap.size ≤ q5) := hide (by omega)
  have e0 := B0.c0
  have e1 := B0.c1
  have e2 := B0.c2
  have x0 := B1.c0
  have x1 := B1.c1
  have x2 := B1.c2
  clear hW h5 h1 h0 B0 B1 B2 F2 u
  go_wp2_with (go_at_call 22; refine (cC _ HU.out).mono ?_; rintro e wB ⟨v, rfl, hR, hB⟩; have hR2 := hide hR; obtain ⟨a5, c5, b5, d5, hv5, -⟩ := hR; subst hv5; have z := HB5.out.1.keep hB; have y := HB5.out.2.of (hB.block q5 HB5.out.1.lt); have z0 := z.c0; have z1 := z.c1; have z2 := z.c2; have y0 := y.f0; have y1 := y.f1; have y2 := y.f2; have HZ := hide z; have HBB := hide hB; clear z y hB cC e0 e1 e2 x0 x1 x2)
  have x := HZ.out.put3 r2 (.slice a5 vs2.length c5) (.slice b5 ss2.length d5)
  have x0 := x.c0
  have x1 := x.c1
  have x2 := x.c2
  clear z0 z1 z2 y0 y1 y2
  exact bodyPost_ret (by simp [results, Try.results43, go_sem, x0, x1, x2]; try rfl) rfl ⟨_, rfl, (hR2.out.st3 HB5.out.1.lt _ _ _).mono HU.out.size, st3_below (HU.out.trans (HBB.out.mono HU.out.size)) q5 HQ5.out _ _ _⟩
set_option maxRecDepth 100000 in
set_option maxHeartbeats 4000000 in
theorem together_r (fv : Value) (a b a2 b2 : Option Addr) (c d c2 d2 : Nat) (vs vs2 : List R) (ss ss2 : List (List Int)) (w : World) (hv : RV w a vs) (hs : RR w b ss) (hvc : vs.length ≤ c) (hva : a = none → c = 0) (hl1 : vs.length ≤ 100000) (hl2 : ss.length ≤ 100000) (hl3 : ∀ (m : Nat) (l : List Int), ss[m]? = some l → l.length ≤ 100000) :
    Calls Try.prog 43 #[.agg #[.bool true, .slice a vs.length c, .slice b ss.length d], .agg #[.bool false, .slice a2 vs2.length c2, .slice b2 ss2.length d2], fv] w fun e w' => ∃ v, e = .returned v ∧ Rn w' w.heap.size v ⟨true, vs, ss⟩ ∧ Below w.heap.size w w' := by
  have cC : ∀ w', Below w.heap.size w w' → Calls Try.prog 22 #[.agg #[.bool true, .slice a vs.length c, .slice b ss.length d]] w' fun e w'' => ∃ v, e = .returned v ∧ Rn w'' w'.heap.size v ⟨true, vs, ss⟩ ∧ Below w'.heap.size w' w'' := fun w' h => copy_S a b c d true vs ss w' (hv.keep h) (hs.keep h) hvc hva hl1 hl2 hl3
  clear hv hs hvc hva hl1 hl2 hl3
  go_enter Try.func43, Try.ntmps43
  go_upto_region 1 with fail
  go_name_world W hW
  obtain ⟨q5, h5⟩ : ∃ z9, z9 = w.heap.size + 1 + 1 := ⟨_, rfl⟩
  rw [← h5]
  obtain ⟨q1, h1⟩ : ∃ z9, z9 = w.heap.size + 1 := ⟨_, rfl⟩
  rw [← h1]
  obtain ⟨q0, h0⟩ : ∃ z9, z9 = w.heap.size := ⟨_, rfl⟩
  rw [← h0]
  obtain ⟨B0, -, B1, -, B2, F2, u⟩ := boxes3 w _ _ _ _ _ _ _ _ _ _ _ _ W hW
  rw [← h0] at B0
  rw [← h1] at B1
  rw [← h5] at B2 F2
  have HB5 := hide (And.intro B2 F2)
  have HU := hide u
  have HQ5 : Hid (w.heap.size ≤ q5) := hide (by omega)
  have e0 := B0.c0
  have e1 := B0.c1
  have e2 := B0.c2
  have x0 := B1.c0
  have x1 := B1.c1
  have x2 := B1.c2
  clear hW h5 h1 h0 B0 B1 B2 F2 u
  go_wp2_with (go_at_call 22; refine (cC _ HU.out).mono ?_; rintro e wB ⟨v, rfl, hR, hB⟩; have hR2 := hide hR; obtain ⟨a5, c5, b5, d5, hv5, -⟩ := hR; subst hv5; have z := HB5.out.1.keep hB; have y := HB5.out.2.of (hB.block q5 HB5.out.1.lt); have z0 := z.c0; have z1 := z.c1; have z2 := z.c2; have y0 := y.f0; have y1 := y.f1; have y2 := y.f2; have HZ := hide z; have HBB := hide hB; clear z y hB cC e0 e1 e2 x0 x1 x2)
  have x := HZ.out.put3 true (.slice a5 vs.length c5) (.slice b5 ss.length d5)
  have x0 := x.c0
  have x1 := x.c1
  have x2 := x.c2
  clear z0 z1 z2 y0 y1 y2
  exact bodyPost_ret (by simp [results, Try.results43, go_sem, x0, x1, x2]; try rfl) rfl ⟨_, rfl, (hR2.out.st3 HB5.out.1.lt _ _ _).mono HU.out.size, st3_below (HU.out.trans (HBB.out.mono HU.out.size)) q5 HQ5.out _ _ _⟩
end Go.Proofs.Ytmhicllhjiglkaa
namespace Go.Proofs.Ytmhicllhjiglkaa
open Go.RowKit
/-- a State, told by Values that are Right -/
structure VS where
  r : Bool
  us : List V
  ss : List (List Int)
def VS.raw (x : VS) : S := ⟨x.r, x.us.map V.raw, x.ss⟩
/-- what is told of either -/
def togV (op : V → V → V) (x y : VS) : VS := if x.r = false then y else if y.r = false then x else ⟨true, List.zipWith op x.us y.us, List.zipWith uniL x.ss y.ss⟩
/-- a State that is Right, whose sets have n sites at most -/
structure VOk (n : Nat) (x : VS) : Prop where
  len : x.ss.length = x.us.length
  le : x.us.length ≤ 1000
  ok : ∀ u ∈ x.us, u.ok
  up : ∀ l ∈ x.ss, UpP l ∧ l.length ≤ n
  nr : x.r = false → x.us = []
theorem VOk.inner {n : Nat} {x : VS} (h : VOk n x) (hn : n ≤ 5000) : ∀ (m : Nat) (l : List Int), x.ss[m]? = some l → l.length ≤ 100000 := fun m l hm => by
  have := (h.up l (List.mem_of_getElem? hm)).2
  omega
/-- what fix makes -/
theorem SOk.vok {s : S} {us : List V} {n k : Nat} (h : SOk s us n k) (hn : n ≤ 1000) : s = (VS.mk s.r us s.ss).raw ∧ VOk 60 ⟨s.r, us, s.ss⟩ :=
  ⟨by obtain ⟨r, vs, ss⟩ := s; unfold VS.raw; dsimp only; rw [← h.vs], ⟨h.len, by have := h.le; dsimp only; omega, h.ok, fun l hl => ⟨(h.up l hl).1, (h.up l hl).2.2⟩, h.nr⟩⟩
/-- join_S -/
theorem tog_joinV {w : World} {v1 v2 : Value} {x y : VS} {n m : Nat} (h1 : Rs w v1 x.raw) (h2 : Rs w v2 y.raw) (k1 : VOk n x) (k2 : VOk m y) (hn : n ≤ 5000) (hm : m ≤ 5000) :
    Calls Try.prog 43 #[v1, v2, .func (.func 44) #[] #[]] w fun e w' => ∃ v, e = .returned v ∧ Rn w' w.heap.size v (togV joinV x y).raw ∧ Below w.heap.size w w' := by
  obtain ⟨a, c, b, d, rfl, e1, e2, e3, e4, e5, e6⟩ := h1
  obtain ⟨a2, c2, b2, d2, rfl, f1, f2, f3, f4, f5, f6⟩ := h2
  obtain ⟨r, us, ss⟩ := x
  obtain ⟨r2, us2, ss2⟩ := y
  have i1 := k1.len
  have i2 := k2.len
  have i3 := k1.le
  have i4 := k2.le
  dsimp only [VS.raw] at *
  cases r with
  | false => exact together_l _ a b a2 b2 c d c2 d2 r2 (us.map V.raw) (us2.map V.raw) ss ss2 w f1 f2 f3 f5 (by rw [List.length_map]; omega) (by omega) (k2.inner hm)
  | true =>
    cases r2 with
    | false => exact together_r _ a b a2 b2 c d c2 d2 (us.map V.raw) (us2.map V.raw) ss ss2 w e1 e2 e3 e5 (by rw [List.length_map]; omega) (by omega) (k1.inner hn)
    | true =>
      have t := together_j a b a2 b2 c d c2 d2 us us2 ss ss2 w e1 e2 f1 f2 (fun u hu => (k1.ok u hu).p3) (fun u hu => (k2.ok u hu).p3) i3 i4 i1 i2 (fun l hl => by have := (k1.up l hl).2; omega) (fun l hl => by have := (k2.up l hl).2; omega)
      rw [List.length_map, List.length_map]
      exact t
set_option maxRecDepth 100000 in
set_option maxHeartbeats 4000000 in
theorem join_S {w : World} {v1 v2 : Value} {x y : VS} {n m : Nat} (h1 : Rs w v1 x.raw) (h2 : Rs w v2 y.raw) (k1 : VOk n x) (k2 : VOk m y) (hn : n ≤ 5000) (hm : m ≤ 5000) :
    Calls Try.prog 14 #[v1, v2] w fun e w' => ∃ v, e = .returned v ∧ Rn w' w.heap.size v (togV joinV x y).raw ∧ Below w.heap.size w w' := by
  have cT : ∀ w', Below w.heap.size w w' → _ := fun w' h => tog_joinV (h1.keep h) (h2.keep h) k1 k2 hn hm
  obtain ⟨a, c, b, d, rfl, -⟩ := h1
  obtain ⟨a2, c2, b2, d2, rfl, -⟩ := h2
  obtain ⟨z, hz⟩ : ∃ z, z = togV joinV x y := ⟨_, rfl⟩
  rw [← hz] at cT ⊢
  clear hz
  obtain ⟨r, vs, ss, hx⟩ : ∃ r vs ss, x.raw = ⟨r, vs, ss⟩ := ⟨_, _, _, rfl⟩
  obtain ⟨r2, vs2, ss2, hy⟩ : ∃ r vs ss, y.raw = ⟨r, vs, ss⟩ := ⟨_, _, _, rfl⟩
  rw [hx, hy] at cT
  rw [hx, hy]
  dsimp only at cT ⊢
  clear hx hy k1 k2
  obtain ⟨zr, zv, zs, hz⟩ : ∃ r vs ss, z.raw = ⟨r, vs, ss⟩ := ⟨_, _, _, rfl⟩
  rw [hz] at cT ⊢
  clear hz
  go_enter Try.func14, Try.ntmps14
  go_upto_region 1 with fail
  go_name_world W hW
  obtain ⟨q5, h5⟩ : ∃ z9, z9 = w.heap.size + 1 + 1 := ⟨_, rfl⟩
  rw [← h5]
  obtain ⟨q1, h1⟩ : ∃ z9, z9 = w.heap.size + 1 := ⟨_, rfl⟩
  rw [← h1]
  obtain ⟨q0, h0⟩ : ∃ z9, z9 = w.heap.size := ⟨_, rfl⟩
  rw [← h0]
  obtain ⟨B0, -, B1, -, B2, F2, u⟩ := boxes3 w _ _ _ _ _ _ _ _ _ _ _ _ W hW
  rw [← h0] at B0
  rw [← h1] at B1
  rw [← h5] at B2 F2
  have HB5 := hide (And.intro B2 F2)
  have HU := hide u
  have HQ5 : Hid (w.heap.size ≤ q5) := hide (by omega)
  have e0 := B0.c0
  have e1 := B0.c1
  have e2 := B0.c2
  have x0 := B1.c0
  have x1 := B1.c1
  have x2 := B1.c2
  clear hW h5 h1 h0 B0 B1 B2 F2 u
  go_wp2_with (go_at_call 43; refine (cT _ HU.out).mono ?_; rintro e wB ⟨v, rfl, hR, hB⟩; have hR2 := hide hR; obtain ⟨a5, c5, b5, d5, hv5, -⟩ := hR; subst hv5; dsimp only at hR2 ⊢; have z := HB5.out.1.keep hB; have y := HB5.out.2.of (hB.block q5 HB5.out.1.lt); have z0 := z.c0; have z1 := z.c1; have z2 := z.c2; have y0 := y.f0; have y1 := y.f1; have y2 := y.f2; have HZ := hide z; have HBB := hide hB; clear z y hB cT e0 e1 e2 x0 x1 x2)
  have x := HZ.out.put3 zr (.slice a5 zv.length c5) (.slice b5 zs.length d5)
  have x0 := x.c0
  have x1 := x.c1
  have x2 := x.c2
  clear z0 z1 z2 y0 y1 y2
  exact bodyPost_ret (by simp [results, Try.results14, go_sem, x0, x1, x2]; try rfl) rfl ⟨_, rfl, (hR2.out.st3 HB5.out.1.lt _ _ _).mono HU.out.size, st3_below (HU.out.trans (HBB.out.mono HU.out.size)) q5 HQ5.out _ _ _⟩
end Go.Proofs.Ytmhicllhjiglkaa
namespace Go.Proofs.Ytmhicllhjiglkaa
open Go.RowKit
theorem neq_val (x y : R) (h : x ≠ y) (w : World) : (binOp .neq 53 (aR x) (aR y)).run Try.prog w = .ok (.bool true) w := by
  obtain ⟨a, b, c, d, e, f⟩ := x
  obtain ⟨a', b', c', d', e', f'⟩ := y
  by_cases h0 : a = a'
  · subst h0
    by_cases h1 : b = b'
    · subst h1
      by_cases h2 : c = c'
      · subst h2
        by_cases h3 : d = d'
        · subst h3
          by_cases h4 : e = e'
          · subst h4
            by_cases h5 : f = f'
            · subst h5; exact absurd rfl h
            · simp [go_sem, h5]
          · simp [go_sem, h4]
        · simp [go_sem, h3]
      · simp [go_sem, h2]
    · simp [go_sem, h1]
  · simp [go_sem, h0]
theorem eq_val (x : R) (w : World) : (binOp .neq 53 (aR x) (aR x)).run Try.prog w = .ok (.bool false) w := by
  simp [go_sem]
theorem take_ext {α : Type} {l m : List α} {k : Nat} {x y : α} (h : l.take k = m.take k) (hx : l[k]? = some x) (hy : m[k]? = some y) : (x = y → l.take (k + 1) = m.take (k + 1)) ∧ (x ≠ y → l ≠ m) := by
  refine ⟨fun e => by rw [take_more hx, take_more hy, h, e], fun e t => ?_⟩
  subst t
  rw [hx] at hy
  exact e (Option.some.inj hy)
set_option maxRecDepth 100000 in
set_option maxHeartbeats 4000000 in
theorem vequal_any (vs ts : List R) (a b : Option Addr) (c d : Nat) (w : World) (hr : RV w a vs) (hs : RV w b ts) (hl1 : vs.length ≤ 100000) (_hl2 : ts.length ≤ 100000) :
    Calls Try.prog 54 #[.slice a vs.length c, .slice b ts.length d] w fun e w' => ∃ bv, e = .returned (.bool bv) ∧ (∃ n, w' = w.drewN n) ∧ (bv = true ↔ vs = ts) := by
  have HR := hide hr
  have HS := hide hs
  clear hr hs
  have i1 : (vs.length : Int) ≤ 100000 := by omega
  by_cases hl : vs.length = ts.length
  · have hb0 : ((vs.length : Int) != ts.length) = false := by simp [hl]
    have HLn := hide hl
    clear hl
    go_enter Try.func54, Try.ntmps54
    go_wp2_with fail
    clear hb0
    go_loopw [13] (fun sk wr => ∃ k n : Nat, wr = w.drewN n ∧ sk = .int .i64 k ∧ k ≤ vs.length ∧ Hid (vs.take k = ts.take k)) (fun sk _ => vs.length - (intOf sk).toNat)
    case atStart => exact ⟨0, 0, rfl, rfl, Nat.zero_le _, rfl⟩
    case round =>
      obtain ⟨k, n, rfl, rfl, hk, h4⟩ := hrel
      by_cases hkv : k < vs.length
      · have hkv2 : (k : Int) < vs.length := by omega
        have hkt : k < ts.length := by have := HLn.out; omega
        have hkt2 : (k : Int) < ts.length := by omega
        obtain ⟨b1, o1, x, hX, rfl, hx6⟩ := HR.out.at hkv
        obtain ⟨b2, o2, y, hY, rfl, hy6⟩ := HS.out.at hkt
        have ht := take_ext h4.out hX hY
        have d0 := hx6.c0
        have d1 := hx6.c1
        have d2 := hx6.c2
        have d3 := hx6.c3
        have d4 := hx6.c4
        have d5 := hx6.c5
        have g0 := hy6.c0
        have g1 := hy6.c1
        have g2 := hy6.c2
        have g3 := hy6.c3
        have g4 := hy6.c4
        have g5 := hy6.c5
        clear hX hY hx6 hy6
        by_cases hxy : x = y
        · subst hxy
          have HT := hide (ht.1 rfl)
          clear ht h4
          go_wp2
          go_quiet (fail)
          go_wp2
          exact ⟨⟨k + 1, n + nq, rfl, by simp, by omega, HT.out⟩, by simp [intOf]; omega⟩
        · have HT := hide (ht.2 hxy)
          have hne := neq_val x y hxy
          clear ht h4 hxy
          go_wp2
          go_quiet (fail)
          go_wp2
          go_ret
          exact ⟨false, rfl, ⟨n + nq, by simp⟩, by simp; exact HT.out⟩
      · have hke : k = vs.length := by omega
        subst hke
        have HE : Hid (vs = ts) := hide (by have t := h4.out; rw [List.take_of_length_le (Nat.le_refl _), List.take_of_length_le (by have := HLn.out; omega)] at t; exact t)
        go_wp2
        go_ret
        exact ⟨true, rfl, ⟨n, rfl⟩, by simp; exact HE.out⟩
  · have hb0 : ((vs.length : Int) != ts.length) = true := by rw [bne_iff_ne]; omega
    go_enter Try.func54, Try.ntmps54
    go_wp2
    go_ret
    exact ⟨false, rfl, ⟨0, rfl⟩, by simp; exact fun t => hl (by rw [t])⟩
set_option maxRecDepth 100000 in
set_option maxHeartbeats 4000000 in
theorem sequal_any (ss tt : List (List Int)) (a b : Option Addr) (c d : Nat) (w : World) (hr : RR w a ss) (hs : RR w b tt) (hl1 : ss.length ≤ 100000) (_hl2 : tt.length ≤ 100000) (hi1 : ∀ l ∈ ss, l.length ≤ 100000) (hi2 : ∀ l ∈ tt, l.length ≤ 100000) :
    Calls Try.prog 49 #[.slice a ss.length c, .slice b tt.length d, .func (.func 55) #[] #[]] w fun e w' => ∃ bv, e = .returned (.bool bv) ∧ (∃ n, w' = w.drewN n) ∧ (bv = true ↔ ss = tt) := by
  have HR := hide hr
  have HS := hide hs
  have HI := hide (And.intro hi1 hi2)
  clear hr hs hi1 hi2
  have i1 : (ss.length : Int) ≤ 100000 := by omega
  by_cases hl : ss.length = tt.length
  · have hb0 : ((ss.length : Int) != tt.length) = false := by simp [hl]
    have HLn := hide hl
    clear hl
    go_enter Try.func49, Try.ntmps49
    go_wp2_with fail
    clear hb0
    go_loopw [17] (fun sk wr => ∃ k n : Nat, wr = w.drewN n ∧ sk = .int .i64 k ∧ k ≤ ss.length ∧ Hid (ss.take k = tt.take k)) (fun sk _ => ss.length - (intOf sk).toNat)
    case atStart => exact ⟨0, 0, rfl, rfl, Nat.zero_le _, rfl⟩
    case round =>
      obtain ⟨k, n, rfl, rfl, hk, h4⟩ := hrel
      by_cases hkv : k < ss.length
      · have hkv2 : (k : Int) < ss.length := by omega
        have hkt : k < tt.length := by have := HLn.out; omega
        have hkt2 : (k : Int) < tt.length := by omega
        obtain ⟨b1, o1, l, ai, ci, hX, rfl, f1, f2, f3, f4⟩ := HR.out.at hkv
        obtain ⟨b2, o2, m, aj, cj, hY, rfl, f5, f6, f7, f8⟩ := HS.out.at hkt
        have ht := take_ext h4.out hX hY
        have hll := HI.out.1 l (List.mem_of_getElem? hX)
        have hlm := HI.out.2 m (List.mem_of_getElem? hY)
        have cS := bsame_any l m ai aj ci cj (w.drewN n) (f2.drewN n) (f6.drewN n) (by omega) (by omega)
        clear hX hY f2 f3 f4 f6 f7 f8
        by_cases hxy : l = m
        · have HT := hide (ht.1 hxy)
          rw [show sameL l m = true from decide_eq_true hxy] at cS
          clear ht h4 hxy
          go_wp2_with (go_at_call 55; refine cS.mono ?_; rintro e w' ⟨⟨j, rfl⟩, rfl⟩; clear cS)
          exact ⟨⟨k + 1, n + j, by simp, by simp, by omega, HT.out⟩, by simp [intOf]; omega⟩
        · have HT := hide (ht.2 hxy)
          rw [show sameL l m = false from decide_eq_false hxy] at cS
          clear ht h4 hxy
          go_wp2_with (go_at_call 55; refine cS.mono ?_; rintro e w' ⟨⟨j, rfl⟩, rfl⟩; clear cS)
          go_ret
          exact ⟨false, rfl, ⟨n + j, by simp⟩, by simp; exact HT.out⟩
      · have hke : k = ss.length := by omega
        subst hke
        have HE : Hid (ss = tt) := hide (by have t := h4.out; rw [List.take_of_length_le (Nat.le_refl _), List.take_of_length_le (by have := HLn.out; omega)] at t; exact t)
        go_wp2
        go_ret
        exact ⟨true, rfl, ⟨n, rfl⟩, by simp; exact HE.out⟩
  · have hb0 : ((ss.length : Int) != tt.length) = true := by rw [bne_iff_ne]; omega
    go_enter Try.func49, Try.ntmps49
    go_wp2
    go_ret
    exact ⟨false, rfl, ⟨0, rfl⟩, by simp; exact fun t => hl (by rw [t])⟩
end Go.Proofs.Ytmhicllhjiglkaa
namespace Go.Proofs.Ytmhicllhjiglkaa
open Go.RowKit
/-- each within the other's -/
def allV : List V → List V → Bool
  | x :: s, y :: t => withinV x y && allV s t
  | [], [] => true
  | _, _ => false
def allS : List (List Int) → List (List Int) → Bool
  | x :: s, y :: t => wiL x y && allS s t
  | [], [] => true
  | _, _ => false
theorem allV_len : ∀ (s t : List V), s.length ≠ t.length → allV s t = false := by
  intro s
  induction s with
  | nil => intro t h; cases t with | nil => exact absurd rfl h | cons y t => rfl
  | cons x s ih => intro t h; cases t with
    | nil => rfl
    | cons y t => rw [allV, ih t (by simpa using h), Bool.and_false]
theorem allS_len : ∀ (s t : List (List Int)), s.length ≠ t.length → allS s t = false := by
  intro s
  induction s with
  | nil => intro t h; cases t with | nil => exact absurd rfl h | cons y t => rfl
  | cons x s ih => intro t h; cases t with
    | nil => rfl
    | cons y t => rw [allS, ih t (by simpa using h), Bool.and_false]
set_option maxRecDepth 100000 in
set_option maxHeartbeats 4000000 in
theorem vwithin_any (us ts : List V) (a b : Option Addr) (c d : Nat) (w : World) (hr : RV w a (us.map V.raw)) (hs : RV w b (ts.map V.raw)) (hl1 : us.length ≤ 100000) (hg : ∀ u ∈ us, u.p &&& 3 = u.p) (hg2 : ∀ u ∈ ts, u.p &&& 3 = u.p) :
    Calls Try.prog 47 #[.slice a us.length c, .slice b ts.length d, .func (.func 48) #[] #[]] w fun e w' => e = .returned (.bool (allV us ts)) ∧ Below w.heap.size w w' := by
  have HR := hide hr
  have HS := hide hs
  have HG := hide (And.intro hg hg2)
  clear hr hs hg hg2
  have i1 : (us.length : Int) ≤ 100000 := by omega
  by_cases hl : us.length = ts.length
  · have hb0 : ((us.length : Int) != ts.length) = false := by simp [hl]
    have HLn := hide hl
    clear hl
    go_enter Try.func47, Try.ntmps47
    go_wp2_with fail
    clear hb0
    go_loopw [17] (fun sk wr => ∃ k : Nat, sk = .int .i64 k ∧ k ≤ us.length ∧ Hid (Below w.heap.size w wr ∧ allV (us.drop k) (ts.drop k) = allV us ts)) (fun sk _ => us.length - (intOf sk).toNat)
    case atStart => exact ⟨0, rfl, Nat.zero_le _, Below.refl _ _, rfl⟩
    case round =>
      obtain ⟨k, rfl, hk, h4⟩ := hrel
      by_cases hkv : k < us.length
      · have hkv2 : (k : Int) < us.length := by omega
        have hkt : k < ts.length := by have := HLn.out; omega
        have hkt2 : (k : Int) < ts.length := by omega
        obtain ⟨b1, o1, x0, hX, rfl, hx6⟩ := HR.out.at (m := k) (by rw [List.length_map]; exact hkv)
        obtain ⟨b2, o2, y0, hY, rfl, hy6⟩ := HS.out.at (m := k) (by rw [List.length_map]; exact hkt)
        obtain ⟨x, hxk, rfl⟩ : ∃ x, us[k]? = some x ∧ x.raw = x0 := by rw [List.getElem?_map, Option.map_eq_some_iff] at hX; exact hX
        obtain ⟨y, hyk, rfl⟩ : ∃ y, ts[k]? = some y ∧ y.raw = y0 := by rw [List.getElem?_map, Option.map_eq_some_iff] at hY; exact hY
        have cW := fun w => within_V x y w (HG.out.1 x (List.mem_of_getElem? hxk)) (HG.out.2 y (List.mem_of_getElem? hyk))
        have HD : Hid (allV us ts = (withinV x y && allV (us.drop (k + 1)) (ts.drop (k + 1)))) := hide (by
          rw [← h4.out.2, List.drop_eq_getElem_cons hkv, List.drop_eq_getElem_cons hkt]
          obtain ⟨_, e1⟩ := List.getElem?_eq_some_iff.1 hxk
          obtain ⟨_, e2⟩ := List.getElem?_eq_some_iff.1 hyk
          rw [e1, e2]; rfl)
        have HX := hide (And.intro hx6 hy6)
        have t6 := hx6.keep h4.out.1
        have d0 := t6.c0
        have d1 := t6.c1
        have d2 := t6.c2
        have d3 := t6.c3
        have d4 := t6.c4
        have d5 := t6.c5
        have HW := hide h4.out.1
        clear hX hY hx6 hy6 hxk hyk t6 h4
        generalize withinV x y = bv at *
        go_upto_region 6 with fail
        go_name_world W6 hW6
        obtain ⟨n8, h8⟩ : ∃ z9, z9 = wr.heap.size := ⟨_, rfl⟩
        rw [← h8]
        have HW6 : Hid (Below wr.heap.size wr W6 ∧ B6 W6 n8 0 x.raw) := hide (by rw [← hW6, h8]; exact ⟨(Below.refl _ _).alloc (Nat.le_refl _) _, B6.new _ _ _⟩)
        clear hW6 h8 d0 d1 d2 d3 d4 d5
        have t7 := (HX.out.2.keep HW.out).keep HW6.out.1
        have d0 := t7.c0
        have d1 := t7.c1
        have d2 := t7.c2
        have d3 := t7.c3
        have d4 := t7.c4
        have d5 := t7.c5
        clear t7
        go_upto_region 7 with fail
        go_name_world W7 hW7
        obtain ⟨n9, h9⟩ : ∃ z9, z9 = W6.heap.size := ⟨_, rfl⟩
        rw [← h9]
        have HW7 : Hid (Below wr.heap.size wr W7 ∧ B6 W7 n8 0 x.raw ∧ B6 W7 n9 0 y.raw) := by
          unfold Hid
          rw [← hW7, h9]
          have u : Below W6.heap.size W6 (W6.alloc (.cells #[.int .i64 y.raw.s, .bool y.raw.k, .int .i64 y.raw.n, .int .i64 y.raw.lo, .int .i64 y.raw.hi, .int .i64 y.raw.p] 53)) := (Below.refl _ _).alloc (Nat.le_refl _) _
          exact ⟨HW6.out.1.trans (u.mono HW6.out.1.size), HW6.out.2.keep u, B6.new _ _ _⟩
        clear hW7 h9 d0 d1 d2 d3 d4 d5 HW6
        have d0 := HW7.out.2.1.c0
        have d1 := HW7.out.2.1.c1
        have d2 := HW7.out.2.1.c2
        have d3 := HW7.out.2.1.c3
        have d4 := HW7.out.2.1.c4
        have d5 := HW7.out.2.1.c5
        have g0 := HW7.out.2.2.c0
        have g1 := HW7.out.2.2.c1
        have g2 := HW7.out.2.2.c2
        have g3 := HW7.out.2.2.c3
        have g4 := HW7.out.2.2.c4
        have g5 := HW7.out.2.2.c5
        have HB := hide (HW.out.trans (HW7.out.1.mono HW.out.size))
        cases bv with
        | false =>
          go_wp2_with (go_at_call 48; refine (cW _).mono ?_; rintro e wZ ⟨rfl, hZ⟩; replace hZ := hide hZ; clear cW)
          go_ret
          exact ⟨by rw [HD.out]; rfl, HB.out.trans (hZ.out.mono HB.out.size)⟩
        | true =>
          have HE : Hid (allV us ts = allV (us.drop (k + 1)) (ts.drop (k + 1))) := hide (by rw [HD.out, Bool.true_and])
          clear HD
          go_wp2_with (go_at_call 48; refine (cW _).mono ?_; rintro e wZ ⟨rfl, hZ⟩; replace hZ := hide hZ; clear cW)
          exact ⟨⟨k + 1, by simp, by omega, ⟨HB.out.trans (hZ.out.mono HB.out.size), HE.out.symm⟩⟩, by simp [intOf]; omega⟩
      · have hke : k = us.length := by omega
        subst hke
        have HE : Hid (allV us ts = true) := hide (by rw [← h4.out.2, List.drop_of_length_le (Nat.le_refl _), List.drop_of_length_le (by have := HLn.out; omega)]; rfl)
        go_wp2
        go_ret
        exact ⟨by rw [HE.out]; rfl, h4.out.1⟩
  · have hb0 : ((us.length : Int) != ts.length) = true := by rw [bne_iff_ne]; omega
    rw [allV_len us ts hl]
    go_enter Try.func47, Try.ntmps47
    go_wp2
    go_ret
    exact ⟨by simp, Below.refl _ _⟩
set_option maxRecDepth 100000 in
set_option maxHeartbeats 4000000 in
theorem swithin_S (ss tt : List (List Int)) (a b : Option Addr) (c d : Nat) (w : World) (hr : RR w a ss) (hs : RR w b tt) (hl1 : ss.length ≤ 100000) (hi1 : ∀ l ∈ ss, l.length ≤ 100000) :
    Calls Try.prog 49 #[.slice a ss.length c, .slice b tt.length d, .func (.func 50) #[] #[]] w fun e w' => e = .returned (.bool (allS ss tt)) ∧ Below w.heap.size w w' := by
  have HR := hide hr
  have HS := hide hs
  have HI := hide hi1
  clear hr hs hi1
  have i1 : (ss.length : Int) ≤ 100000 := by omega
  by_cases hl : ss.length = tt.length
  · have hb0 : ((ss.length : Int) != tt.length) = false := by simp [hl]
    have HLn := hide hl
    clear hl
    go_enter Try.func49, Try.ntmps49
    go_wp2_with fail
    clear hb0
    go_loop [17] (fun sk => ∃ k : Nat, sk = .int .i64 k ∧ k ≤ ss.length ∧ Hid (allS (ss.drop k) (tt.drop k) = allS ss tt)) (fun sk => ss.length - (intOf sk).toNat)
    case atStart => exact ⟨0, rfl, Nat.zero_le _, rfl⟩
    case round =>
      obtain ⟨k, rfl, hk, h4⟩ := hrel
      by_cases hkv : k < ss.length
      · have hkv2 : (k : Int) < ss.length := by omega
        have hkt : k < tt.length := by have := HLn.out; omega
        have hkt2 : (k : Int) < tt.length := by omega
        obtain ⟨b1, o1, l, ai, ci, hX, rfl, f1, f2, f3, f4⟩ := HR.out.at hkv
        obtain ⟨b2, o2, m, aj, cj, hY, rfl, f5, f6, f7, f8⟩ := HS.out.at hkt
        have hll := HI.out l (List.mem_of_getElem? hX)
        have cS := bwithin_any l m ai aj ci cj w f2 f6 (by omega) f7
        have HD : Hid (allS ss tt = (wiL l m && allS (ss.drop (k + 1)) (tt.drop (k + 1)))) := hide (by
          rw [← h4.out, List.drop_eq_getElem_cons hkv, List.drop_eq_getElem_cons hkt]
          obtain ⟨_, e1⟩ := List.getElem?_eq_some_iff.1 hX
          obtain ⟨_, e2⟩ := List.getElem?_eq_some_iff.1 hY
          rw [e1, e2]; rfl)
        clear hX hY f2 f3 f4 f6 f7 f8 h4
        generalize wiL l m = bv at *
        cases bv with
        | false =>
          go_wp2_with (go_at_call 50; refine cS.mono ?_; rintro e w' ⟨hw, rfl⟩; obtain rfl := hw.symm; clear cS)
          go_ret
          exact ⟨by rw [HD.out]; rfl, Below.refl _ _⟩
        | true =>
          have HE : Hid (allS ss tt = allS (ss.drop (k + 1)) (tt.drop (k + 1))) := hide (by rw [HD.out, Bool.true_and])
          clear HD
          go_wp2_with (go_at_call 50; refine cS.mono ?_; rintro e w' ⟨hw, rfl⟩; obtain rfl := hw.symm; clear cS)
          exact ⟨⟨k + 1, by simp, by omega, HE.out.symm⟩, by simp [intOf]; omega⟩
      · have hke : k = ss.length := by omega
        subst hke
        have HE : Hid (allS ss tt = true) := hide (by rw [← h4.out, List.drop_of_length_le (Nat.le_refl _), List.drop_of_length_le (by have := HLn.out; omega)]; rfl)
        go_wp2
        go_ret
        exact ⟨by rw [HE.out]; rfl, Below.refl _ _⟩
  · have hb0 : ((ss.length : Int) != tt.length) = true := by rw [bne_iff_ne]; omega
    rw [allS_len ss tt hl]
    go_enter Try.func49, Try.ntmps49
    go_wp2
    go_ret
    exact ⟨by simp, Below.refl _ _⟩
end Go.Proofs.Ytmhicllhjiglkaa
namespace Go.Proofs.Ytmhicllhjiglkaa
open Go.RowKit
theorem vequal_t (vs : List R) (a b : Option Addr) (c d : Nat) (w : World) (hr : RV w a vs) (hs : RV w b vs) (hl1 : vs.length ≤ 100000) :
    Calls Try.prog 54 #[.slice a vs.length c, .slice b vs.length d] w fun e w' => e = .returned (.bool true) ∧ Below w.heap.size w w' :=
  (vequal_any vs vs a b c d w hr hs hl1 hl1).mono fun _ _ ⟨bv, h1, ⟨n, h2⟩, h3⟩ => ⟨by rw [h1, h3.2 rfl], by rw [h2]; exact below_drewN (Below.refl _ _) n⟩
theorem vequal_f (vs ts : List R) (a b : Option Addr) (c d : Nat) (w : World) (hr : RV w a vs) (hs : RV w b ts) (hl1 : vs.length ≤ 100000) (hl2 : ts.length ≤ 100000) (hne : vs ≠ ts) :
    Calls Try.prog 54 #[.slice a vs.length c, .slice b ts.length d] w fun e w' => e = .returned (.bool false) ∧ Below w.heap.size w w' :=
  (vequal_any vs ts a b c d w hr hs hl1 hl2).mono fun _ _ ⟨bv, h1, ⟨n, h2⟩, h3⟩ => ⟨by rw [h1]; cases bv with | false => rfl | true => exact absurd (h3.1 rfl) hne, by rw [h2]; exact below_drewN (Below.refl _ _) n⟩
theorem sequal_t (ss : List (List Int)) (a b : Option Addr) (c d : Nat) (w : World) (hr : RR w a ss) (hs : RR w b ss) (hl1 : ss.length ≤ 100000) (hi1 : ∀ l ∈ ss, l.length ≤ 100000) :
    Calls Try.prog 49 #[.slice a ss.length c, .slice b ss.length d, .func (.func 55) #[] #[]] w fun e w' => e = .returned (.bool true) ∧ Below w.heap.size w w' :=
  (sequal_any ss ss a b c d w hr hs hl1 hl1 hi1 hi1).mono fun _ _ ⟨bv, h1, ⟨n, h2⟩, h3⟩ => ⟨by rw [h1, h3.2 rfl], by rw [h2]; exact below_drewN (Below.refl _ _) n⟩
theorem sequal_f (ss tt : List (List Int)) (a b : Option Addr) (c d : Nat) (w : World) (hr : RR w a ss) (hs : RR w b tt) (hl1 : ss.length ≤ 100000) (hl2 : tt.length ≤ 100000) (hi1 : ∀ l ∈ ss, l.length ≤ 100000) (hi2 : ∀ l ∈ tt, l.length ≤ 100000) (hne : ss ≠ tt) :
    Calls Try.prog 49 #[.slice a ss.length c, .slice b tt.length d, .func (.func 55) #[] #[]] w fun e w' => e = .returned (.bool false) ∧ Below w.heap.size w w' :=
  (sequal_any ss tt a b c d w hr hs hl1 hl2 hi1 hi2).mono fun _ _ ⟨bv, h1, ⟨n, h2⟩, h3⟩ => ⟨by rw [h1]; cases bv with | false => rfl | true => exact absurd (h3.1 rfl) hne, by rw [h2]; exact below_drewN (Below.refl _ _) n⟩
set_option maxRecDepth 100000 in
set_option maxHeartbeats 8000000 in
theorem equal_S {v1 v2 : Value} {s1 s2 : S} {w : World} (h1 : Rs w v1 s1) (h2 : Rs w v2 s2) (hl1 : s1.vs.length ≤ 100000) (hl2 : s2.vs.length ≤ 100000) (hl3 : s1.ss.length ≤ 100000) (hl4 : s2.ss.length ≤ 100000) (hi1 : ∀ l ∈ s1.ss, l.length ≤ 100000) (hi2 : ∀ l ∈ s2.ss, l.length ≤ 100000) :
    Calls Try.prog 20 #[v1, v2] w fun e w' => ∃ bv, e = .returned (.bool bv) ∧ Below w.heap.size w w' ∧ (bv = true ↔ s1 = s2) := by
  obtain ⟨a, c, b, d, rfl, e1, e2, -⟩ := h1
  obtain ⟨a2, c2, b2, d2, rfl, f1, f2, -⟩ := h2
  obtain ⟨r, vs, ss⟩ := s1
  obtain ⟨r2, ts, tt⟩ := s2
  dsimp only at *
  by_cases hr : r = r2
  · subst hr
    by_cases hv : vs = ts
    · subst hv
      have cV := fun w' (h : Below w.heap.size w w') => vequal_t vs a a2 c c2 w' (e1.keep h) (f1.keep h) hl1
      by_cases hs : ss = tt
      · subst hs
        have cS := fun w' (h : Below w.heap.size w w') => sequal_t ss b b2 d d2 w' (e2.keep h) (f2.keep h) hl3 hi1
        clear e1 e2 f1 f2 hi1 hi2
        go_enter Try.func20, Try.ntmps20
        go_upto_region 1 with fail
        go_name_world W hW
        obtain ⟨B0, -, B1, -, u⟩ := boxes2 w _ _ _ _ _ _ _ _ W hW
        have HU := hide u
        have HB := hide (And.intro B0 B1)
        have x0 := B0.c0
        have x1 := B0.c1
        have x2 := B1.c0
        have x3 := B1.c1
        clear hW B0 B1 u
        go_wp2_with (first | (go_at_call 54; refine (cV _ HU.out).mono ?_; rintro e wA ⟨rfl, hA⟩; have HA := hide hA; have y0 := (HB.out.1.keep hA).c2; have y1 := (HB.out.2.keep hA).c2; clear hA cV x0 x1 x2 x3) | (go_at_call 49; refine (cS _ (HU.out.trans (HA.out.mono HU.out.size))).mono ?_; rintro e wB ⟨rfl, hB⟩; replace hB := hide hB; clear cS))
        go_ret
        exact ⟨true, by simp, HU.out.trans ((HA.out.trans (hB.out.mono HA.out.size)).mono HU.out.size), by simp⟩
      · have cS := fun w' (h : Below w.heap.size w w') => sequal_f ss tt b b2 d d2 w' (e2.keep h) (f2.keep h) hl3 hl4 hi1 hi2 hs
        clear e1 e2 f1 f2 hi1 hi2
        go_enter Try.func20, Try.ntmps20
        go_upto_region 1 with fail
        go_name_world W hW
        obtain ⟨B0, -, B1, -, u⟩ := boxes2 w _ _ _ _ _ _ _ _ W hW
        have HU := hide u
        have HB := hide (And.intro B0 B1)
        have x0 := B0.c0
        have x1 := B0.c1
        have x2 := B1.c0
        have x3 := B1.c1
        clear hW B0 B1 u
        go_wp2_with (first | (go_at_call 54; refine (cV _ HU.out).mono ?_; rintro e wA ⟨rfl, hA⟩; have HA := hide hA; have y0 := (HB.out.1.keep hA).c2; have y1 := (HB.out.2.keep hA).c2; clear hA cV x0 x1 x2 x3) | (go_at_call 49; refine (cS _ (HU.out.trans (HA.out.mono HU.out.size))).mono ?_; rintro e wB ⟨rfl, hB⟩; replace hB := hide hB; clear cS))
        go_ret
        exact ⟨false, by simp, HU.out.trans ((HA.out.trans (hB.out.mono HA.out.size)).mono HU.out.size), by simp; exact hs⟩
    · have cV := fun w' (h : Below w.heap.size w w') => vequal_f vs ts a a2 c c2 w' (e1.keep h) (f1.keep h) hl1 hl2 hv
      clear e1 e2 f1 f2 hi1 hi2
      go_enter Try.func20, Try.ntmps20
      go_upto_region 1 with fail
      go_name_world W hW
      obtain ⟨B0, -, B1, -, u⟩ := boxes2 w _ _ _ _ _ _ _ _ W hW
      have HU := hide u
      have x0 := B0.c0
      have x1 := B0.c1
      have x2 := B1.c0
      have x3 := B1.c1
      clear hW B0 B1 u
      go_wp2_with (go_at_call 54; refine (cV _ HU.out).mono ?_; rintro e wA ⟨rfl, hA⟩; replace hA := hide hA; clear cV x0 x1 x2 x3)
      go_ret
      exact ⟨false, by simp, HU.out.trans (hA.out.mono HU.out.size), by simp; exact fun t => absurd t hv⟩
  · have hb : (r == r2) = false := by simp [hr]
    go_enter Try.func20, Try.ntmps20
    go_upto_region 1 with fail
    go_name_world W hW
    obtain ⟨B0, -, B1, -, u⟩ := boxes2 w _ _ _ _ _ _ _ _ W hW
    have HU := hide u
    have x0 := B0.c0
    have x2 := B1.c0
    clear hW B0 B1 u
    go_wp2
    go_ret
    exact ⟨false, by simp, HU.out, by simp; exact fun t => absurd t hr⟩
end Go.Proofs.Ytmhicllhjiglkaa
