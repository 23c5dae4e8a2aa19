import Derived.Test.YtmhicllhjiglkaaG02
import Derived.Deep.RegionHeld3
import Derived.Test.YtmhicllhjiglkaaG06
import Derived.Test.YtmhicllhjiglkaaG03
namespace Go.Proofs.Ytmhicllhjiglkaa
open Go.RowKit
set_option maxRecDepth 100000 in
set_option maxHeartbeats 4000000 in
theorem to_S (a b : Option Addr) (c d : Nat) (r : Bool) (vs : List R) (ss : List (List Int)) (w : World) (hv : RV w a vs) (hs : RR w b ss) (hl1 : vs.length ≤ 100000) (hl2 : ss.length ≤ 100000) (hl3 : ∀ (m : Nat) (l : List Int), ss[m]? = some l → l.length ≤ 100000) :
    Calls Try.prog 11 #[.agg #[.bool r, .slice a vs.length c, .slice b ss.length d]] w fun e w' => ∃ v, e = .returned v ∧ Rn w' w.heap.size v ⟨r, vs, ss⟩ ∧ Below w.heap.size w w' := by
  have HV := hide hv
  have HR := hide hs
  have HL3 := hide hl3
  clear hv hs hl3
  go_enter Try.func11, Try.ntmps11
  go_upto_region 2 with fail
  go_name_world W hW
  obtain ⟨q2, h2⟩ : ∃ z9, z9 = w.heap.size + 1 + 1 := ⟨_, rfl⟩
  rw [← h2]
  obtain ⟨q1, h1⟩ : ∃ z9, z9 = w.heap.size + 1 := ⟨_, rfl⟩
  rw [← h1]
  obtain ⟨q0, h0⟩ : ∃ z9, z9 = w.heap.size := ⟨_, rfl⟩
  rw [← h0]
  have FQ : Hid (q0 < q2 ∧ q1 < q2 ∧ w.heap.size ≤ q2 ∧ w.heap.size ≤ q1) := by unfold Hid; omega
  have H1 : Hid (Bs W q0 r (.slice a vs.length c) (.slice b ss.length d) ∧ Bs W q1 false (.slice none 0 0) (.slice none 0 0) ∧ Fs W q1 ∧ Lo W (q2 + 1) q2 53 ⟨r, [], []⟩ (.slice none 0 0) (.slice none 0 0) [] ∧ Below w.heap.size w W) := by
    unfold Hid
    rw [h2, h1, h0]
    obtain ⟨B0, -, B1, F1, B2, F2, u⟩ := boxes3 w _ _ _ _ _ _ _ _ _ _ _ _ W hW
    exact ⟨B0, B1, F1, Lo.start _ B2 F2 (Nat.lt_succ_self _), u⟩
  clear hW h2 h1 h0
  have HL1 : Hid (vs.length ≤ 100000 ∧ ss.length ≤ 100000) := ⟨hl1, hl2⟩
  go_wp2_with fail
  go_loopw [4] (fun s4 wr => ∃ (k : Nat) (va : Value), s4 = .int .i64 k ∧ k ≤ vs.length ∧ Hid (Bs wr q0 r (.slice a vs.length c) (.slice b ss.length d) ∧ Bs wr q1 false (.slice none 0 0) (.slice none 0 0) ∧ Fs wr q1 ∧ Lo wr (q2 + 1) q2 53 ⟨r, vs.take k, []⟩ va (.slice none 0 0) [] ∧ Below w.heap.size w wr)) (fun s4 _ => vs.length - (intOf s4).toNat)
  case atStart => exact ⟨0, _, rfl, Nat.zero_le _, H1.out⟩
  case round =>
    obtain ⟨k, va, rfl, hk, h4⟩ := hrel
    clear H1
    by_cases hk2 : k = vs.length
    · subst hk2
      have h5 : Hid (Bs wr q0 r (.slice a vs.length c) (.slice b ss.length d) ∧ Bs wr q1 false (.slice none 0 0) (.slice none 0 0) ∧ Fs wr q1 ∧ Lo wr (q2 + 1) q2 53 ⟨r, vs, []⟩ va (.slice none 0 0) [] ∧ Below w.heap.size w wr) := by
        have t := h4.out
        rw [List.take_of_length_le (Nat.le_refl _)] at t
        exact t
      have e1 := h5.out.1.c1
      clear h4
      go_upto_region 6 with fail
      clear e1
      go_wp2_with fail
      go_loopw [5] (fun s5 wr => ∃ (k : Nat) (sa : Value) (es : List Value), s5 = .int .i64 k ∧ k ≤ ss.length ∧ Hid (Bs wr q0 r (.slice a vs.length c) (.slice b ss.length d) ∧ Bs wr q1 false (.slice none 0 0) (.slice none 0 0) ∧ Fs wr q1 ∧ Lo wr (q2 + 1) q2 53 ⟨r, vs, ss.take k⟩ va sa es ∧ Below w.heap.size w wr)) (fun s5 _ => ss.length - (intOf s5).toNat)
      case atStart => exact ⟨0, _, _, rfl, Nat.zero_le _, h5.out⟩
      case round =>
        obtain ⟨k, sa, es, rfl, hk, h4⟩ := hrel
        clear h5
        by_cases hk2 : k = ss.length
        · subst hk2
          have h6 := h4.out
          rw [List.take_of_length_le (Nat.le_refl _)] at h6
          have h5 := hide h6
          have e1 := h5.out.1.c2
          clear h4 h6
          go_upto_region 10 with fail
          clear e1
          obtain ⟨a7, c7, rfl, -, -⟩ := h5.out.2.2.2.1.ov.slice
          obtain ⟨a8, c8, rfl, -, -⟩ := h5.out.2.2.2.1.os.slice
          have e0 := h5.out.2.2.2.1.bx.c0
          have e1 := h5.out.2.2.2.1.bx.c1
          have e2 := h5.out.2.2.2.1.bx.c2
          have g0 := h5.out.2.1.c0
          have g1 := h5.out.2.1.c1
          have g2 := h5.out.2.1.c2
          have f0 := h5.out.2.2.1.f0
          have f1 := h5.out.2.2.1.f1
          have f2 := h5.out.2.2.1.f2
          have G1 := hide (h5.out.2.2.2.1.fin h5.out.2.1 (Nat.lt_succ_of_lt FQ.out.2.1) (Nat.ne_of_lt FQ.out.2.1) h5.out.2.2.2.2 FQ.out.2.2.2)
          clear h5
          go_wp2_with fail
          have y0 := G1.out.1.c0
          have y1 := G1.out.1.c1
          have y2 := G1.out.1.c2
          clear e0 e1 e2 g0 g1 g2 f0 f1 f2
          exact bodyPost_ret (by simp [results, Try.results11, go_sem, y0, y1, y2]; try rfl) rfl ⟨_, rfl, G1.out.2.1, G1.out.2.2⟩
        · have hlt : k < ss.length := by omega
          have hlt' : (k : Int) < ss.length := by omega
          obtain ⟨b1, o1, l, ai, ci, hX, rfl, hc1, hc2, hc3, hc4⟩ := HR.out.at hlt
          have HX := hide hX
          have HL := hide (show l.length ≤ 1000000 by have := HL3.out k l hX; omega)
          have HN : Hid (ai = none → ci = 0 ∧ l = []) := fun e => ⟨hc4 e, List.eq_nil_of_length_eq_zero (by have := hc4 e; omega)⟩
          have H2 := hide (And.intro hc1 hc2)
          have e1 := h4.out.1.c2
          clear hX hc1 hc2 hc3 hc4 
          go_upto_region 9 with fail
          clear e1
          go_name_world W hW
          rw [hW] at h4
          clear hW
          have KW : Hid (Bs W q0 r (.slice a vs.length c) (.slice (some ⟨b1, o1, none⟩) ss.length d) ∧ Bs W q1 false (.slice none 0 0) (.slice none 0 0) ∧ Fs W q1) := ⟨h4.out.1, h4.out.2.1, h4.out.2.2.1⟩
          have LW := hide h4.out.2.2.2.1
          have BW := hide h4.out.2.2.2.2
          clear h4
          have HI : Hid (∀ w', Below q2 W w' → Ri w' ai l) := fun w' h => H2.out.2.keep' (BW.out.trans (h.mono FQ.out.2.2.1))
          have HS : Hid (∀ w', Below q2 W w' → (w'.cell? ⟨q0, 2, none⟩ = some (.slice (some ⟨b1, o1, none⟩) ss.length d) ∧ w'.cell? ⟨b1, o1 + k, none⟩ = some (.slice ai l.length ci))) := fun w' h => ⟨(h.cell (p := ⟨q0, 2, none⟩) FQ.out.1).trans KW.out.1.c2, ((BW.out.trans (h.mono FQ.out.2.2.1)).cell (p := ⟨b1, o1 + k, none⟩) (World.block_lt_of_cell? w _ H2.out.1)).trans H2.out.1⟩
          refine wp_region_held_drew (S := fun w' => w'.cell? ⟨q0, 2, none⟩ = some (.slice (some ⟨b1, o1, none⟩) ss.length d) ∧ w'.cell? ⟨b1, o1 + k, none⟩ = some (.slice ai l.length ci)) (by kernel_rfl) (HS.out _ (Below.refl _ _).drew) (fun hH0 => ?_)
          obtain ⟨w0, hw0⟩ : ∃ w0, w0 = W.drew := ⟨_, rfl⟩
          (try rw [← hw0] at hH0)
          rw [← hw0]
          have L0 : Hid (Lo w0 (q2 + 1) q2 53 ⟨r, vs, ss.take k⟩ va sa es) := hw0 ▸ hide (LW.out.of (Below.refl _ _).drew)
          have b0 : Hid (Below q2 W w0) := hw0 ▸ hide (Below.refl _ _).drew
          clear hw0
          refine wpAnyH_take (i := 0) (oi := ({ dst := some 34, op := Op.fieldAddr 29 (Operand.tmp 3) 2, type := 0, pos := _, after := _, guard := _ } : Oper)) (v := ?_) rfl (by kernel_rfl) (by kernel_rfl) (by kernel_rfl) (fun _ _ _ h => h) (Or.inl ⟨by rfl, ?_⟩) (by assumption) ?_
          rotate_left
          · (intro wz hSw; (try dsimp only at hSw); go_simp; try with_reducible rfl)
          simp only [Act.put, List.setIfInBounds_toArray, List.set_cons_zero, List.set_cons_succ]
          refine wpAnyH_take (i := 3) (oi := ({ dst := some 37, op := Op.fieldAddr 25 (Operand.tmp 1) 2, type := 0, pos := _, after := _, guard := _ } : Oper)) (v := ?_) rfl (by kernel_rfl) (by kernel_rfl) (by kernel_rfl) (fun _ _ _ h => h) (Or.inl ⟨by rfl, ?_⟩) (by assumption) ?_
          rotate_left
          · (intro wz hSw; (try dsimp only at hSw); go_simp; try with_reducible rfl)
          simp only [Act.put, List.setIfInBounds_toArray, List.set_cons_zero, List.set_cons_succ]
          refine wpAnyH_take (i := 4) (oi := ({ dst := some 38, op := Op.load 23 (Operand.tmp 37), type := 23, pos := _, after := _, guard := _ } : Oper)) (v := ?_) rfl (by kernel_rfl) (by kernel_rfl) (by kernel_rfl) (fun _ _ _ h => h) (Or.inl ⟨by rfl, ?_⟩) (by assumption) ?_
          rotate_left
          · (intro wz hSw; (try dsimp only at hSw); go_simp; try with_reducible rfl)
          simp only [Act.put, List.setIfInBounds_toArray, List.set_cons_zero, List.set_cons_succ]
          refine wpAnyH_take (i := 5) (oi := ({ dst := some 39, op := Op.move (Operand.tmp 5), type := 3, pos := _, after := _, guard := _ } : Oper)) (v := ?_) rfl (by kernel_rfl) (by kernel_rfl) (by kernel_rfl) (fun _ _ _ h => h) (Or.inl ⟨by rfl, ?_⟩) (by assumption) ?_
          rotate_left
          · (intro wz hSw; (try dsimp only at hSw); go_simp; try with_reducible rfl)
          simp only [Act.put, List.setIfInBounds_toArray, List.set_cons_zero, List.set_cons_succ]
          refine wpAnyH_take (i := 6) (oi := ({ dst := some 40, op := Op.indexAddr 23 (Operand.tmp 38) (Operand.tmp 39), type := 0, pos := _, after := _, guard := _ } : Oper)) (v := ?_) rfl (by kernel_rfl) (by kernel_rfl) (by kernel_rfl) (fun _ _ _ h => h) (Or.inl ⟨by rfl, ?_⟩) (by assumption) ?_
          rotate_left
          · (intro wz hSw; (try dsimp only at hSw); go_simp; try with_reducible rfl)
          simp only [Act.put, List.setIfInBounds_toArray, List.set_cons_zero, List.set_cons_succ]
          refine wpAnyH_take (i := 7) (oi := ({ dst := some 41, op := Op.load 38 (Operand.tmp 40), type := 38, pos := _, after := _, guard := _ } : Oper)) (v := ?_) rfl (by kernel_rfl) (by kernel_rfl) (by kernel_rfl) (fun _ _ _ h => h) (Or.inl ⟨by rfl, ?_⟩) (by assumption) ?_
          rotate_left
          · (intro wz hSw; (try dsimp only at hSw); go_simp; try with_reducible rfl)
          simp only [Act.put, List.setIfInBounds_toArray, List.set_cons_zero, List.set_cons_succ]
          refine wpAnyH_ready (rs := [1, 2]) (by kernel_rfl) (by simp) ?_
          refine AllReadyH.cons (o := ({ dst := some 35, op := Op.load 23 (Operand.tmp 34), type := 23, pos := _, after := _, guard := _ } : Oper)) rfl (fun K hK => ?_) (AllReadyH.cons (o := ({ dst := some 36, op := Op.buildSlice 38 0 #[], type := 38, pos := _, after := _, guard := _ } : Oper)) rfl (fun K hK => ?_) AllReadyH.nil)
          · have zc := L0.out.bx.c2
            go_simp
            refine hK.out _ _ hH0 (fun _ => ?_)
            clear hK K zc
            refine wpAnyH_ready (rs := [2]) (by kernel_rfl) (by simp) ?_
            refine AllReadyH.cons (o := ({ dst := some 36, op := Op.buildSlice 38 0 #[], type := 38, pos := _, after := _, guard := _ } : Oper)) rfl (fun K hK => ?_) AllReadyH.nil
            · go_simp
              have hb1 : Below w0.heap.size w0 (w0.alloc (.cells #[] 3)) := (Below.refl _ _).alloc (Nat.le_refl _) _
              have L1 := hide (L0.out.of hb1)
              have b1 := hide (b0.out.trans (hb1.mono (Nat.le_of_lt L0.out.bx.lt)))
              have E1 := hide (St.lit0 w0)
              refine hK.out _ _ (HS.out _ b1.out) (fun hH1 => ?_)
              clear hK K hb1
              obtain ⟨w1, hw1⟩ : ∃ z9, z9 = (w0.alloc (.cells #[] 3)) := ⟨_, rfl⟩
              rw [← hw1] at hH1 L1 b1 E1 ⊢
              clear hw1
              obtain ⟨ne, hne⟩ : ∃ z9, z9 = w0.heap.size := ⟨_, rfl⟩
              rw [← hne] at E1 ⊢
              replace hne := hide hne
              refine wpAnyH_ready (rs := [8]) (by kernel_rfl) (by simp) ?_
              refine AllReadyH.cons (o := ({ dst := some 42, op := Op.call { callee := Callee.builtin Builtin.append, args := #[Operand.tmp 36, Operand.tmp 41], argTypes := #[38, 38] }, type := 38, pos := _, after := _, guard := _ } : Oper)) rfl (fun K hK => ?_) AllReadyH.nil
              · refine wp_appZ w0 w1 (.tmp 36) (.tmp 41) rfl _ E1.out rfl ai ci l rfl (HI.out _ b1.out) HN.out HL.out ?_
                intro a2 c2 w2 hO2
                have L2 := hide (L0.out.of hO2.bel)
                have b2 := hide (b0.out.trans (hO2.bel.mono (Nat.le_of_lt L0.out.bx.lt)))
                have I2 := hide (hO2.owi (Nat.succ_le_of_lt L0.out.bx.lt))
                refine hK.out _ _ (HS.out _ b2.out) (fun hH2 => ?_)
                clear hK K hO2 E1
                refine wpAnyH_ready (rs := [9]) (by kernel_rfl) (by simp) ?_
                refine AllReadyH.cons (o := ({ dst := some 43, op := Op.buildSlice 23 1 #[(0, Operand.tmp 42)], type := 23, pos := _, after := _, guard := _ } : Oper)) rfl (fun K hK => ?_) AllReadyH.nil
                · go_simp
                  have hb3 : Below w2.heap.size w2 (w2.alloc (.cells #[(.slice a2 l.length c2)] 38)) := (Below.refl _ _).alloc (Nat.le_refl _) _
                  have L3 := hide (L2.out.of hb3)
                  have b3 := hide (b2.out.trans (hb3.mono (Nat.le_of_lt L2.out.bx.lt)))
                  have I3 := hide (I2.out.keep hb3)
                  have Y3 := hide (C1.new w2 (.slice a2 l.length c2) 38)
                  refine hK.out _ _ (HS.out _ b3.out) (fun hH3 => ?_)
                  clear hK K hb3
                  obtain ⟨w3, hw3⟩ : ∃ z9, z9 = (w2.alloc (.cells #[(.slice a2 l.length c2)] 38)) := ⟨_, rfl⟩
                  rw [← hw3] at hH3 L3 b3 Y3 I3 ⊢
                  clear hw3
                  generalize w2.heap.size = nc at *
                  refine wpAnyH_ready (rs := [10]) (by kernel_rfl) (by simp) ?_
                  refine AllReadyH.cons (o := ({ dst := some 44, op := Op.call { callee := Callee.builtin Builtin.append, args := #[Operand.tmp 35, Operand.tmp 43], argTypes := #[23, 23] }, type := 23, pos := _, after := _, guard := _ } : Oper)) rfl (fun K hK => ?_) AllReadyH.nil
                  · refine wp_appR' w3 (q2 + 1) (.tmp 35) (.tmp 43) rfl _ es (.slice a2 l.length c2) nc rfl L3.out.os Y3.out.c rfl rfl ?_ (Nat.succ_le_of_lt L3.out.bx.lt) ?_
                    · (have := L3.out.inn.1; dsimp only at this; rw [List.length_take] at this; omega)
                    intro a4 c4 w4 hO4 hg4
                    have b4 := hide (L3.out.belR b3.out hg4)
                    refine hK.out _ _ (HS.out _ b4.out) (fun hH4 => ?_)
                    clear hK K
                    replace hO4 := hide hO4
                    replace hg4 := hide hg4
                    refine wpAnyH_take (i := 11) (oi := ({ dst := some 45, op := Op.fieldAddr 29 (Operand.tmp 3) 2, type := 0, pos := _, after := _, guard := _ } : Oper)) (v := ?_) rfl (by kernel_rfl) (by kernel_rfl) (by kernel_rfl) (fun _ _ _ h => h) (Or.inl ⟨by rfl, ?_⟩) (by assumption) ?_
                    rotate_left
                    · (intro wz hSw; (try dsimp only at hSw); go_simp; try with_reducible rfl)
                    simp only [Act.put, List.setIfInBounds_toArray, List.set_cons_zero, List.set_cons_succ]
                    refine wpAnyH_ready (rs := [12]) (by kernel_rfl) (by simp) ?_
                    refine AllReadyH.cons (o := ({ dst := none, op := Op.store 23 (Operand.tmp 45) (Operand.tmp 44), type := 0, pos := _, after := _, guard := _ } : Oper)) rfl (fun K hK => ?_) AllReadyH.nil
                    · have zb := (L3.out.boxR hg4.out).1
                      have zf := (L3.out.boxR hg4.out).2
                      have z0 := zb.c0
                      have z1 := zb.c1
                      have z2 := zb.c2
                      have y0 := zf.f0
                      have y1 := zf.f1
                      have y2 := zf.f2
                      clear zb zf
                      go_simp
                      have L5 := hide (L3.out.appR (by decide) I3.out hO4.out hg4.out)
                      have b5 := hide (b4.out.setCell (p := ⟨q2, 2, none⟩) (Nat.le_refl _) (.slice a4 (es.length + 1) c4))
                      refine hK.out _ _ (HS.out _ b5.out) (fun hH5 => ?_)
                      clear hK K z0 z1 z2 y0 y1 y2
                      obtain ⟨w5, hw5⟩ : ∃ z9, z9 = w4.setCell ⟨q2, 2, none⟩ (.slice a4 (es.length + 1) c4) := ⟨_, rfl⟩
                      rw [← hw5] at hH5 L5 b5  ⊢
                      clear hw5
                      refine wpAnyH_done (by kernel_rfl) ?_ _
                      clear HS
                      go_wp2_with fail
                      exact ⟨⟨k + 1, _, _, by simp, by omega, ⟨KW.out.1.of (b5.out.block q0 FQ.out.1), KW.out.2.1.of (b5.out.block q1 FQ.out.2.1), KW.out.2.2.of (b5.out.block q1 FQ.out.2.1), by rw [take_more HX.out]; exact L5.out, BW.out.trans (b5.out.mono FQ.out.2.2.1)⟩⟩, by simp [intOf]; omega⟩
          · go_simp
            have hb1 : Below w0.heap.size w0 (w0.alloc (.cells #[] 3)) := (Below.refl _ _).alloc (Nat.le_refl _) _
            have L1 := hide (L0.out.of hb1)
            have b1 := hide (b0.out.trans (hb1.mono (Nat.le_of_lt L0.out.bx.lt)))
            have E1 := hide (St.lit0 w0)
            refine hK.out _ _ (HS.out _ b1.out) (fun hH1 => ?_)
            clear hK K hb1
            obtain ⟨w1, hw1⟩ : ∃ z9, z9 = (w0.alloc (.cells #[] 3)) := ⟨_, rfl⟩
            rw [← hw1] at hH1 L1 b1 E1 ⊢
            clear hw1
            obtain ⟨ne, hne⟩ : ∃ z9, z9 = w0.heap.size := ⟨_, rfl⟩
            rw [← hne] at E1 ⊢
            replace hne := hide hne
            refine wpAnyH_ready (rs := [1, 8]) (by kernel_rfl) (by simp) ?_
            refine AllReadyH.cons (o := ({ dst := some 35, op := Op.load 23 (Operand.tmp 34), type := 23, pos := _, after := _, guard := _ } : Oper)) rfl (fun K hK => ?_) (AllReadyH.cons (o := ({ dst := some 42, op := Op.call { callee := Callee.builtin Builtin.append, args := #[Operand.tmp 36, Operand.tmp 41], argTypes := #[38, 38] }, type := 38, pos := _, after := _, guard := _ } : Oper)) rfl (fun K hK => ?_) AllReadyH.nil)
            · have zc := L1.out.bx.c2
              go_simp
              refine hK.out _ _ hH1 (fun _ => ?_)
              clear hK K zc
              refine wpAnyH_ready (rs := [8]) (by kernel_rfl) (by simp) ?_
              refine AllReadyH.cons (o := ({ dst := some 42, op := Op.call { callee := Callee.builtin Builtin.append, args := #[Operand.tmp 36, Operand.tmp 41], argTypes := #[38, 38] }, type := 38, pos := _, after := _, guard := _ } : Oper)) rfl (fun K hK => ?_) AllReadyH.nil
              · refine wp_appZ w0 w1 (.tmp 36) (.tmp 41) rfl _ E1.out rfl ai ci l rfl (HI.out _ b1.out) HN.out HL.out ?_
                intro a2 c2 w2 hO2
                have L2 := hide (L0.out.of hO2.bel)
                have b2 := hide (b0.out.trans (hO2.bel.mono (Nat.le_of_lt L0.out.bx.lt)))
                have I2 := hide (hO2.owi (Nat.succ_le_of_lt L0.out.bx.lt))
                refine hK.out _ _ (HS.out _ b2.out) (fun hH2 => ?_)
                clear hK K hO2 E1
                refine wpAnyH_ready (rs := [9]) (by kernel_rfl) (by simp) ?_
                refine AllReadyH.cons (o := ({ dst := some 43, op := Op.buildSlice 23 1 #[(0, Operand.tmp 42)], type := 23, pos := _, after := _, guard := _ } : Oper)) rfl (fun K hK => ?_) AllReadyH.nil
                · go_simp
                  have hb3 : Below w2.heap.size w2 (w2.alloc (.cells #[(.slice a2 l.length c2)] 38)) := (Below.refl _ _).alloc (Nat.le_refl _) _
                  have L3 := hide (L2.out.of hb3)
                  have b3 := hide (b2.out.trans (hb3.mono (Nat.le_of_lt L2.out.bx.lt)))
                  have I3 := hide (I2.out.keep hb3)
                  have Y3 := hide (C1.new w2 (.slice a2 l.length c2) 38)
                  refine hK.out _ _ (HS.out _ b3.out) (fun hH3 => ?_)
                  clear hK K hb3
                  obtain ⟨w3, hw3⟩ : ∃ z9, z9 = (w2.alloc (.cells #[(.slice a2 l.length c2)] 38)) := ⟨_, rfl⟩
                  rw [← hw3] at hH3 L3 b3 Y3 I3 ⊢
                  clear hw3
                  generalize w2.heap.size = nc at *
                  refine wpAnyH_ready (rs := [10]) (by kernel_rfl) (by simp) ?_
                  refine AllReadyH.cons (o := ({ dst := some 44, op := Op.call { callee := Callee.builtin Builtin.append, args := #[Operand.tmp 35, Operand.tmp 43], argTypes := #[23, 23] }, type := 23, pos := _, after := _, guard := _ } : Oper)) rfl (fun K hK => ?_) AllReadyH.nil
                  · refine wp_appR' w3 (q2 + 1) (.tmp 35) (.tmp 43) rfl _ es (.slice a2 l.length c2) nc rfl L3.out.os Y3.out.c rfl rfl ?_ (Nat.succ_le_of_lt L3.out.bx.lt) ?_
                    · (have := L3.out.inn.1; dsimp only at this; rw [List.length_take] at this; omega)
                    intro a4 c4 w4 hO4 hg4
                    have b4 := hide (L3.out.belR b3.out hg4)
                    refine hK.out _ _ (HS.out _ b4.out) (fun hH4 => ?_)
                    clear hK K
                    replace hO4 := hide hO4
                    replace hg4 := hide hg4
                    refine wpAnyH_take (i := 11) (oi := ({ dst := some 45, op := Op.fieldAddr 29 (Operand.tmp 3) 2, type := 0, pos := _, after := _, guard := _ } : Oper)) (v := ?_) rfl (by kernel_rfl) (by kernel_rfl) (by kernel_rfl) (fun _ _ _ h => h) (Or.inl ⟨by rfl, ?_⟩) (by assumption) ?_
                    rotate_left
                    · (intro wz hSw; (try dsimp only at hSw); go_simp; try with_reducible rfl)
                    simp only [Act.put, List.setIfInBounds_toArray, List.set_cons_zero, List.set_cons_succ]
                    refine wpAnyH_ready (rs := [12]) (by kernel_rfl) (by simp) ?_
                    refine AllReadyH.cons (o := ({ dst := none, op := Op.store 23 (Operand.tmp 45) (Operand.tmp 44), type := 0, pos := _, after := _, guard := _ } : Oper)) rfl (fun K hK => ?_) AllReadyH.nil
                    · have zb := (L3.out.boxR hg4.out).1
                      have zf := (L3.out.boxR hg4.out).2
                      have z0 := zb.c0
                      have z1 := zb.c1
                      have z2 := zb.c2
                      have y0 := zf.f0
                      have y1 := zf.f1
                      have y2 := zf.f2
                      clear zb zf
                      go_simp
                      have L5 := hide (L3.out.appR (by decide) I3.out hO4.out hg4.out)
                      have b5 := hide (b4.out.setCell (p := ⟨q2, 2, none⟩) (Nat.le_refl _) (.slice a4 (es.length + 1) c4))
                      refine hK.out _ _ (HS.out _ b5.out) (fun hH5 => ?_)
                      clear hK K z0 z1 z2 y0 y1 y2
                      obtain ⟨w5, hw5⟩ : ∃ z9, z9 = w4.setCell ⟨q2, 2, none⟩ (.slice a4 (es.length + 1) c4) := ⟨_, rfl⟩
                      rw [← hw5] at hH5 L5 b5  ⊢
                      clear hw5
                      refine wpAnyH_done (by kernel_rfl) ?_ _
                      clear HS
                      go_wp2_with fail
                      exact ⟨⟨k + 1, _, _, by simp, by omega, ⟨KW.out.1.of (b5.out.block q0 FQ.out.1), KW.out.2.1.of (b5.out.block q1 FQ.out.2.1), KW.out.2.2.of (b5.out.block q1 FQ.out.2.1), by rw [take_more HX.out]; exact L5.out, BW.out.trans (b5.out.mono FQ.out.2.2.1)⟩⟩, by simp [intOf]; omega⟩
            · refine wp_appZ w0 w1 (.tmp 36) (.tmp 41) rfl _ E1.out rfl ai ci l rfl (HI.out _ b1.out) HN.out HL.out ?_
              intro a2 c2 w2 hO2
              have L2 := hide (L0.out.of hO2.bel)
              have b2 := hide (b0.out.trans (hO2.bel.mono (Nat.le_of_lt L0.out.bx.lt)))
              have I2 := hide (hO2.owi (Nat.succ_le_of_lt L0.out.bx.lt))
              refine hK.out _ _ (HS.out _ b2.out) (fun hH2 => ?_)
              clear hK K hO2 E1
              refine wpAnyH_ready (rs := [1, 9]) (by kernel_rfl) (by simp) ?_
              refine AllReadyH.cons (o := ({ dst := some 35, op := Op.load 23 (Operand.tmp 34), type := 23, pos := _, after := _, guard := _ } : Oper)) rfl (fun K hK => ?_) (AllReadyH.cons (o := ({ dst := some 43, op := Op.buildSlice 23 1 #[(0, Operand.tmp 42)], type := 23, pos := _, after := _, guard := _ } : Oper)) rfl (fun K hK => ?_) AllReadyH.nil)
              · have zc := L2.out.bx.c2
                go_simp
                refine hK.out _ _ hH2 (fun _ => ?_)
                clear hK K zc
                refine wpAnyH_ready (rs := [9]) (by kernel_rfl) (by simp) ?_
                refine AllReadyH.cons (o := ({ dst := some 43, op := Op.buildSlice 23 1 #[(0, Operand.tmp 42)], type := 23, pos := _, after := _, guard := _ } : Oper)) rfl (fun K hK => ?_) AllReadyH.nil
                · go_simp
                  have hb3 : Below w2.heap.size w2 (w2.alloc (.cells #[(.slice a2 l.length c2)] 38)) := (Below.refl _ _).alloc (Nat.le_refl _) _
                  have L3 := hide (L2.out.of hb3)
                  have b3 := hide (b2.out.trans (hb3.mono (Nat.le_of_lt L2.out.bx.lt)))
                  have I3 := hide (I2.out.keep hb3)
                  have Y3 := hide (C1.new w2 (.slice a2 l.length c2) 38)
                  refine hK.out _ _ (HS.out _ b3.out) (fun hH3 => ?_)
                  clear hK K hb3
                  obtain ⟨w3, hw3⟩ : ∃ z9, z9 = (w2.alloc (.cells #[(.slice a2 l.length c2)] 38)) := ⟨_, rfl⟩
                  rw [← hw3] at hH3 L3 b3 Y3 I3 ⊢
                  clear hw3
                  generalize w2.heap.size = nc at *
                  refine wpAnyH_ready (rs := [10]) (by kernel_rfl) (by simp) ?_
                  refine AllReadyH.cons (o := ({ dst := some 44, op := Op.call { callee := Callee.builtin Builtin.append, args := #[Operand.tmp 35, Operand.tmp 43], argTypes := #[23, 23] }, type := 23, pos := _, after := _, guard := _ } : Oper)) rfl (fun K hK => ?_) AllReadyH.nil
                  · refine wp_appR' w3 (q2 + 1) (.tmp 35) (.tmp 43) rfl _ es (.slice a2 l.length c2) nc rfl L3.out.os Y3.out.c rfl rfl ?_ (Nat.succ_le_of_lt L3.out.bx.lt) ?_
                    · (have := L3.out.inn.1; dsimp only at this; rw [List.length_take] at this; omega)
                    intro a4 c4 w4 hO4 hg4
                    have b4 := hide (L3.out.belR b3.out hg4)
                    refine hK.out _ _ (HS.out _ b4.out) (fun hH4 => ?_)
                    clear hK K
                    replace hO4 := hide hO4
                    replace hg4 := hide hg4
                    refine wpAnyH_take (i := 11) (oi := ({ dst := some 45, op := Op.fieldAddr 29 (Operand.tmp 3) 2, type := 0, pos := _, after := _, guard := _ } : Oper)) (v := ?_) rfl (by kernel_rfl) (by kernel_rfl) (by kernel_rfl) (fun _ _ _ h => h) (Or.inl ⟨by rfl, ?_⟩) (by assumption) ?_
                    rotate_left
                    · (intro wz hSw; (try dsimp only at hSw); go_simp; try with_reducible rfl)
                    simp only [Act.put, List.setIfInBounds_toArray, List.set_cons_zero, List.set_cons_succ]
                    refine wpAnyH_ready (rs := [12]) (by kernel_rfl) (by simp) ?_
                    refine AllReadyH.cons (o := ({ dst := none, op := Op.store 23 (Operand.tmp 45) (Operand.tmp 44), type := 0, pos := _, after := _, guard := _ } : Oper)) rfl (fun K hK => ?_) AllReadyH.nil
                    · have zb := (L3.out.boxR hg4.out).1
                      have zf := (L3.out.boxR hg4.out).2
                      have z0 := zb.c0
                      have z1 := zb.c1
                      have z2 := zb.c2
                      have y0 := zf.f0
                      have y1 := zf.f1
                      have y2 := zf.f2
                      clear zb zf
                      go_simp
                      have L5 := hide (L3.out.appR (by decide) I3.out hO4.out hg4.out)
                      have b5 := hide (b4.out.setCell (p := ⟨q2, 2, none⟩) (Nat.le_refl _) (.slice a4 (es.length + 1) c4))
                      refine hK.out _ _ (HS.out _ b5.out) (fun hH5 => ?_)
                      clear hK K z0 z1 z2 y0 y1 y2
                      obtain ⟨w5, hw5⟩ : ∃ z9, z9 = w4.setCell ⟨q2, 2, none⟩ (.slice a4 (es.length + 1) c4) := ⟨_, rfl⟩
                      rw [← hw5] at hH5 L5 b5  ⊢
                      clear hw5
                      refine wpAnyH_done (by kernel_rfl) ?_ _
                      clear HS
                      go_wp2_with fail
                      exact ⟨⟨k + 1, _, _, by simp, by omega, ⟨KW.out.1.of (b5.out.block q0 FQ.out.1), KW.out.2.1.of (b5.out.block q1 FQ.out.2.1), KW.out.2.2.of (b5.out.block q1 FQ.out.2.1), by rw [take_more HX.out]; exact L5.out, BW.out.trans (b5.out.mono FQ.out.2.2.1)⟩⟩, by simp [intOf]; omega⟩
              · go_simp
                have hb3 : Below w2.heap.size w2 (w2.alloc (.cells #[(.slice a2 l.length c2)] 38)) := (Below.refl _ _).alloc (Nat.le_refl _) _
                have L3 := hide (L2.out.of hb3)
                have b3 := hide (b2.out.trans (hb3.mono (Nat.le_of_lt L2.out.bx.lt)))
                have I3 := hide (I2.out.keep hb3)
                have Y3 := hide (C1.new w2 (.slice a2 l.length c2) 38)
                refine hK.out _ _ (HS.out _ b3.out) (fun hH3 => ?_)
                clear hK K hb3
                obtain ⟨w3, hw3⟩ : ∃ z9, z9 = (w2.alloc (.cells #[(.slice a2 l.length c2)] 38)) := ⟨_, rfl⟩
                rw [← hw3] at hH3 L3 b3 Y3 I3 ⊢
                clear hw3
                generalize w2.heap.size = nc at *
                refine wpAnyH_ready (rs := [1]) (by kernel_rfl) (by simp) ?_
                refine AllReadyH.cons (o := ({ dst := some 35, op := Op.load 23 (Operand.tmp 34), type := 23, pos := _, after := _, guard := _ } : Oper)) rfl (fun K hK => ?_) AllReadyH.nil
                · have zc := L3.out.bx.c2
                  go_simp
                  refine hK.out _ _ hH3 (fun _ => ?_)
                  clear hK K zc
                  refine wpAnyH_ready (rs := [10]) (by kernel_rfl) (by simp) ?_
                  refine AllReadyH.cons (o := ({ dst := some 44, op := Op.call { callee := Callee.builtin Builtin.append, args := #[Operand.tmp 35, Operand.tmp 43], argTypes := #[23, 23] }, type := 23, pos := _, after := _, guard := _ } : Oper)) rfl (fun K hK => ?_) AllReadyH.nil
                  · refine wp_appR' w3 (q2 + 1) (.tmp 35) (.tmp 43) rfl _ es (.slice a2 l.length c2) nc rfl L3.out.os Y3.out.c rfl rfl ?_ (Nat.succ_le_of_lt L3.out.bx.lt) ?_
                    · (have := L3.out.inn.1; dsimp only at this; rw [List.length_take] at this; omega)
                    intro a4 c4 w4 hO4 hg4
                    have b4 := hide (L3.out.belR b3.out hg4)
                    refine hK.out _ _ (HS.out _ b4.out) (fun hH4 => ?_)
                    clear hK K
                    replace hO4 := hide hO4
                    replace hg4 := hide hg4
                    refine wpAnyH_take (i := 11) (oi := ({ dst := some 45, op := Op.fieldAddr 29 (Operand.tmp 3) 2, type := 0, pos := _, after := _, guard := _ } : Oper)) (v := ?_) rfl (by kernel_rfl) (by kernel_rfl) (by kernel_rfl) (fun _ _ _ h => h) (Or.inl ⟨by rfl, ?_⟩) (by assumption) ?_
                    rotate_left
                    · (intro wz hSw; (try dsimp only at hSw); go_simp; try with_reducible rfl)
                    simp only [Act.put, List.setIfInBounds_toArray, List.set_cons_zero, List.set_cons_succ]
                    refine wpAnyH_ready (rs := [12]) (by kernel_rfl) (by simp) ?_
                    refine AllReadyH.cons (o := ({ dst := none, op := Op.store 23 (Operand.tmp 45) (Operand.tmp 44), type := 0, pos := _, after := _, guard := _ } : Oper)) rfl (fun K hK => ?_) AllReadyH.nil
                    · have zb := (L3.out.boxR hg4.out).1
                      have zf := (L3.out.boxR hg4.out).2
                      have z0 := zb.c0
                      have z1 := zb.c1
                      have z2 := zb.c2
                      have y0 := zf.f0
                      have y1 := zf.f1
                      have y2 := zf.f2
                      clear zb zf
                      go_simp
                      have L5 := hide (L3.out.appR (by decide) I3.out hO4.out hg4.out)
                      have b5 := hide (b4.out.setCell (p := ⟨q2, 2, none⟩) (Nat.le_refl _) (.slice a4 (es.length + 1) c4))
                      refine hK.out _ _ (HS.out _ b5.out) (fun hH5 => ?_)
                      clear hK K z0 z1 z2 y0 y1 y2
                      obtain ⟨w5, hw5⟩ : ∃ z9, z9 = w4.setCell ⟨q2, 2, none⟩ (.slice a4 (es.length + 1) c4) := ⟨_, rfl⟩
                      rw [← hw5] at hH5 L5 b5  ⊢
                      clear hw5
                      refine wpAnyH_done (by kernel_rfl) ?_ _
                      clear HS
                      go_wp2_with fail
                      exact ⟨⟨k + 1, _, _, by simp, by omega, ⟨KW.out.1.of (b5.out.block q0 FQ.out.1), KW.out.2.1.of (b5.out.block q1 FQ.out.2.1), KW.out.2.2.of (b5.out.block q1 FQ.out.2.1), by rw [take_more HX.out]; exact L5.out, BW.out.trans (b5.out.mono FQ.out.2.2.1)⟩⟩, by simp [intOf]; omega⟩
    · have hlt : k < vs.length := by omega
      have hlt' : (k : Int) < vs.length := by omega
      obtain ⟨b1, o1, x, hX, rfl, hx6⟩ := HV.out.at hlt
      have HX := hide hX
      have H6 := hide hx6
      have e1 := h4.out.1.c1
      clear hX hx6
      go_upto_region 5 with fail
      clear e1
      go_name_world W hW
      rw [hW] at h4
      clear hW
      have KW : Hid (Bs W q0 r (.slice (some ⟨b1, o1, none⟩) vs.length c) (.slice b ss.length d) ∧ Bs W q1 false (.slice none 0 0) (.slice none 0 0) ∧ Fs W q1) := ⟨h4.out.1, h4.out.2.1, h4.out.2.2.1⟩
      have LW := hide h4.out.2.2.2.1
      have BW := hide h4.out.2.2.2.2
      clear h4
      have HS : Hid (∀ w', Below q2 W w' → (w'.cell? ⟨q0, 1, none⟩ = some (.slice (some ⟨b1, o1, none⟩) vs.length c) ∧ w'.cell? ⟨b1, o1 + k * 6, none⟩ = some (.int .i64 x.s) ∧ w'.cell? ⟨b1, o1 + k * 6 + 1, none⟩ = some (.bool x.k) ∧ w'.cell? ⟨b1, o1 + k * 6 + 2, none⟩ = some (.int .i64 x.n) ∧ w'.cell? ⟨b1, o1 + k * 6 + 3, none⟩ = some (.int .i64 x.lo) ∧ w'.cell? ⟨b1, o1 + k * 6 + 4, none⟩ = some (.int .i64 x.hi) ∧ w'.cell? ⟨b1, o1 + k * 6 + 5, none⟩ = some (.int .i64 x.p))) := fun w' h => by
        have t := H6.out.keep (BW.out.trans (h.mono FQ.out.2.2.1))
        exact ⟨(h.cell (p := ⟨q0, 1, none⟩) FQ.out.1).trans KW.out.1.c1, t.c0, t.c1, t.c2, t.c3, t.c4, t.c5⟩
      obtain ⟨pv, hpv⟩ : ∃ z9, z9 = vs.take k := ⟨_, rfl⟩
      have hlv : pv.length ≤ 1000000 := by rw [hpv, List.length_take]; omega
      rw [← hpv] at LW
      have HPV := hide hpv
      clear hpv
      refine wp_region_held_drew (S := fun w' => w'.cell? ⟨q0, 1, none⟩ = some (.slice (some ⟨b1, o1, none⟩) vs.length c) ∧ w'.cell? ⟨b1, o1 + k * 6, none⟩ = some (.int .i64 x.s) ∧ w'.cell? ⟨b1, o1 + k * 6 + 1, none⟩ = some (.bool x.k) ∧ w'.cell? ⟨b1, o1 + k * 6 + 2, none⟩ = some (.int .i64 x.n) ∧ w'.cell? ⟨b1, o1 + k * 6 + 3, none⟩ = some (.int .i64 x.lo) ∧ w'.cell? ⟨b1, o1 + k * 6 + 4, none⟩ = some (.int .i64 x.hi) ∧ w'.cell? ⟨b1, o1 + k * 6 + 5, none⟩ = some (.int .i64 x.p)) (by kernel_rfl) (HS.out _ (Below.refl _ _).drew) (fun hH0 => ?_)
      obtain ⟨w0, hw0⟩ : ∃ w0, w0 = W.drew := ⟨_, rfl⟩
      (try rw [← hw0] at hH0)
      rw [← hw0]
      have L0 : Hid (Lo w0 (q2 + 1) q2 53 ⟨r, pv, []⟩ va (.slice none 0 0) []) := hw0 ▸ hide (LW.out.of (Below.refl _ _).drew)
      have b0 : Hid (Below q2 W w0) := hw0 ▸ hide (Below.refl _ _).drew
      clear hw0
      refine wpAnyH_take (i := 0) (oi := ({ dst := some 16, op := Op.fieldAddr 29 (Operand.tmp 3) 1, type := 0, pos := _, after := _, guard := _ } : Oper)) (v := ?_) rfl (by kernel_rfl) (by kernel_rfl) (by kernel_rfl) (fun _ _ _ h => h) (Or.inl ⟨by rfl, ?_⟩) (by assumption) ?_
      rotate_left
      · (intro wz hSw; (try dsimp only at hSw); go_simp; try with_reducible rfl)
      simp only [Act.put, List.setIfInBounds_toArray, List.set_cons_zero, List.set_cons_succ]
      refine wpAnyH_take (i := 2) (oi := ({ dst := some 18, op := Op.fieldAddr 25 (Operand.tmp 1) 1, type := 0, pos := _, after := _, guard := _ } : Oper)) (v := ?_) rfl (by kernel_rfl) (by kernel_rfl) (by kernel_rfl) (fun _ _ _ h => h) (Or.inl ⟨by rfl, ?_⟩) (by assumption) ?_
      rotate_left
      · (intro wz hSw; (try dsimp only at hSw); go_simp; try with_reducible rfl)
      simp only [Act.put, List.setIfInBounds_toArray, List.set_cons_zero, List.set_cons_succ]
      refine wpAnyH_take (i := 3) (oi := ({ dst := some 19, op := Op.load 22 (Operand.tmp 18), type := 22, pos := _, after := _, guard := _ } : Oper)) (v := ?_) rfl (by kernel_rfl) (by kernel_rfl) (by kernel_rfl) (fun _ _ _ h => h) (Or.inl ⟨by rfl, ?_⟩) (by assumption) ?_
      rotate_left
      · (intro wz hSw; (try dsimp only at hSw); go_simp; try with_reducible rfl)
      simp only [Act.put, List.setIfInBounds_toArray, List.set_cons_zero, List.set_cons_succ]
      refine wpAnyH_take (i := 4) (oi := ({ dst := some 20, op := Op.move (Operand.tmp 4), type := 3, pos := _, after := _, guard := _ } : Oper)) (v := ?_) rfl (by kernel_rfl) (by kernel_rfl) (by kernel_rfl) (fun _ _ _ h => h) (Or.inl ⟨by rfl, ?_⟩) (by assumption) ?_
      rotate_left
      · (intro wz hSw; (try dsimp only at hSw); go_simp; try with_reducible rfl)
      simp only [Act.put, List.setIfInBounds_toArray, List.set_cons_zero, List.set_cons_succ]
      refine wpAnyH_take (i := 5) (oi := ({ dst := some 21, op := Op.indexAddr 22 (Operand.tmp 19) (Operand.tmp 20), type := 0, pos := _, after := _, guard := _ } : Oper)) (v := ?_) rfl (by kernel_rfl) (by kernel_rfl) (by kernel_rfl) (fun _ _ _ h => h) (Or.inl ⟨by rfl, ?_⟩) (by assumption) ?_
      rotate_left
      · (intro wz hSw; (try dsimp only at hSw); go_simp; try with_reducible rfl)
      simp only [Act.put, List.setIfInBounds_toArray, List.set_cons_zero, List.set_cons_succ]
      refine wpAnyH_take (i := 6) (oi := ({ dst := some 22, op := Op.load 48 (Operand.tmp 21), type := 48, pos := _, after := _, guard := _ } : Oper)) (v := ?_) rfl (by kernel_rfl) (by kernel_rfl) (by kernel_rfl) (fun _ _ _ h => h) (Or.inl ⟨by rfl, ?_⟩) (by assumption) ?_
      rotate_left
      · (intro wz hSw; (try dsimp only at hSw); go_simp; try with_reducible rfl)
      simp only [Act.put, List.setIfInBounds_toArray, List.set_cons_zero, List.set_cons_succ]
      refine wpAnyH_ready (rs := [1, 7]) (by kernel_rfl) (by simp) ?_
      refine AllReadyH.cons (o := ({ dst := some 17, op := Op.load 27 (Operand.tmp 16), type := 27, pos := _, after := _, guard := _ } : Oper)) rfl (fun K hK => ?_) (AllReadyH.cons (o := ({ dst := some 23, op := Op.call { callee := Callee.value (Operand.func 26), args := #[Operand.tmp 22], argTypes := #[48] }, type := 53, pos := _, after := _, guard := _ } : Oper)) rfl (fun K hK => ?_) AllReadyH.nil)
      · have zc := L0.out.bx.c1
        go_simp
        refine hK.out _ _ hH0 (fun _ => ?_)
        clear hK K zc
        refine wpAnyH_ready (rs := [7]) (by kernel_rfl) (by simp) ?_
        refine AllReadyH.cons (o := ({ dst := some 23, op := Op.call { callee := Callee.value (Operand.func 26), args := #[Operand.tmp 22], argTypes := #[48] }, type := 53, pos := _, after := _, guard := _ } : Oper)) rfl (fun K hK => ?_) AllReadyH.nil
        · go_simp
          go_at_call 26
          refine (to_V x.s x.k x.n x.lo x.hi x.p _).mono ?_
          rintro e w1 ⟨rfl, hb1⟩
          have L1 := hide (L0.out.of hb1)
          have b1 := hide (b0.out.trans (hb1.mono (Nat.le_of_lt L0.out.bx.lt)))
          refine hK.out _ _ (HS.out _ b1.out) (fun hH1 => ?_)
          clear hK K hb1
          refine wpAnyH_ready (rs := [8]) (by kernel_rfl) (by simp) ?_
          refine AllReadyH.cons (o := ({ dst := some 24, op := Op.buildSlice 27 1 #[(0, Operand.tmp 23)], type := 27, pos := _, after := _, guard := _ } : Oper)) rfl (fun K hK => ?_) AllReadyH.nil
          · go_simp
            have hb2 : Below w1.heap.size w1 (w1.alloc (.cells #[.int .i64 x.s, .bool x.k, .int .i64 x.n, .int .i64 x.lo, .int .i64 x.hi, .int .i64 x.p] 53)) := (Below.refl _ _).alloc (Nat.le_refl _) _
            have L2 := hide (L1.out.of hb2)
            have b2 := hide (b1.out.trans (hb2.mono (Nat.le_of_lt L1.out.bx.lt)))
            have Y2 := hide (B6.new w1 x 53)
            refine hK.out _ _ (HS.out _ b2.out) (fun hH2 => ?_)
            clear hK K hb2
            obtain ⟨w2, hw2⟩ : ∃ z9, z9 = (w1.alloc (.cells #[.int .i64 x.s, .bool x.k, .int .i64 x.n, .int .i64 x.lo, .int .i64 x.hi, .int .i64 x.p] 53)) := ⟨_, rfl⟩
            rw [← hw2] at hH2 L2 b2 Y2 ⊢
            clear hw2
            generalize w1.heap.size = nb at *
            refine wpAnyH_ready (rs := [9]) (by kernel_rfl) (by simp) ?_
            refine AllReadyH.cons (o := ({ dst := some 25, op := Op.call { callee := Callee.builtin Builtin.append, args := #[Operand.tmp 17, Operand.tmp 24], argTypes := #[27, 27] }, type := 27, pos := _, after := _, guard := _ } : Oper)) rfl (fun K hK => ?_) AllReadyH.nil
            · refine wp_appV' w2 (q2 + 1) 27 53 Try.underlying27 info53p (.tmp 17) (.tmp 24) rfl _ pv x nb L2.out.ov Y2.out rfl rfl ?_ (Nat.succ_le_of_lt L2.out.bx.lt) ?_
              · first | omega | (simp; omega)
              intro a3 c3 w3 hO3 hg3
              have b3 := hide (L2.out.belV b2.out hg3)
              refine hK.out _ _ (HS.out _ b3.out) (fun hH3 => ?_)
              clear hK K
              replace hO3 := hide hO3
              replace hg3 := hide hg3
              refine wpAnyH_take (i := 10) (oi := ({ dst := some 26, op := Op.fieldAddr 29 (Operand.tmp 3) 1, type := 0, pos := _, after := _, guard := _ } : Oper)) (v := ?_) rfl (by kernel_rfl) (by kernel_rfl) (by kernel_rfl) (fun _ _ _ h => h) (Or.inl ⟨by rfl, ?_⟩) (by assumption) ?_
              rotate_left
              · (intro wz hSw; (try dsimp only at hSw); go_simp; try with_reducible rfl)
              simp only [Act.put, List.setIfInBounds_toArray, List.set_cons_zero, List.set_cons_succ]
              refine wpAnyH_ready (rs := [11]) (by kernel_rfl) (by simp) ?_
              refine AllReadyH.cons (o := ({ dst := none, op := Op.store 27 (Operand.tmp 26) (Operand.tmp 25), type := 0, pos := _, after := _, guard := _ } : Oper)) rfl (fun K hK => ?_) AllReadyH.nil
              · have zb := (L2.out.boxV hg3.out).1
                have zf := (L2.out.boxV hg3.out).2
                have z0 := zb.c0
                have z1 := zb.c1
                have z2 := zb.c2
                have y0 := zf.f0
                have y1 := zf.f1
                have y2 := zf.f2
                clear zb zf
                go_simp
                have L4 := hide (L2.out.appV (by decide) (by decide) hO3.out hg3.out)
                have b4 := hide (b3.out.setCell (p := ⟨q2, 1, none⟩) (Nat.le_refl _) (.slice a3 (pv.length + 1) c3))
                refine hK.out _ _ (HS.out _ b4.out) (fun hH4 => ?_)
                clear hK K z0 z1 z2 y0 y1 y2
                obtain ⟨w4, hw4⟩ : ∃ z9, z9 = w3.setCell ⟨q2, 1, none⟩ (.slice a3 (pv.length + 1) c3) := ⟨_, rfl⟩
                rw [← hw4] at hH4 L4 b4  ⊢
                clear hw4
                refine wpAnyH_done (by kernel_rfl) ?_ _
                clear HS
                go_wp2_with fail
                exact ⟨⟨k + 1, _, by simp, by omega, ⟨KW.out.1.of (b4.out.block q0 FQ.out.1), KW.out.2.1.of (b4.out.block q1 FQ.out.2.1), KW.out.2.2.of (b4.out.block q1 FQ.out.2.1), by rw [take_more HX.out, ← HPV.out]; exact L4.out, BW.out.trans (b4.out.mono FQ.out.2.2.1)⟩⟩, by simp [intOf]; omega⟩
      · go_simp
        go_at_call 26
        refine (to_V x.s x.k x.n x.lo x.hi x.p _).mono ?_
        rintro e w1 ⟨rfl, hb1⟩
        have L1 := hide (L0.out.of hb1)
        have b1 := hide (b0.out.trans (hb1.mono (Nat.le_of_lt L0.out.bx.lt)))
        refine hK.out _ _ (HS.out _ b1.out) (fun hH1 => ?_)
        clear hK K hb1
        refine wpAnyH_ready (rs := [1, 8]) (by kernel_rfl) (by simp) ?_
        refine AllReadyH.cons (o := ({ dst := some 17, op := Op.load 27 (Operand.tmp 16), type := 27, pos := _, after := _, guard := _ } : Oper)) rfl (fun K hK => ?_) (AllReadyH.cons (o := ({ dst := some 24, op := Op.buildSlice 27 1 #[(0, Operand.tmp 23)], type := 27, pos := _, after := _, guard := _ } : Oper)) rfl (fun K hK => ?_) AllReadyH.nil)
        · have zc := L1.out.bx.c1
          go_simp
          refine hK.out _ _ hH1 (fun _ => ?_)
          clear hK K zc
          refine wpAnyH_ready (rs := [8]) (by kernel_rfl) (by simp) ?_
          refine AllReadyH.cons (o := ({ dst := some 24, op := Op.buildSlice 27 1 #[(0, Operand.tmp 23)], type := 27, pos := _, after := _, guard := _ } : Oper)) rfl (fun K hK => ?_) AllReadyH.nil
          · go_simp
            have hb2 : Below w1.heap.size w1 (w1.alloc (.cells #[.int .i64 x.s, .bool x.k, .int .i64 x.n, .int .i64 x.lo, .int .i64 x.hi, .int .i64 x.p] 53)) := (Below.refl _ _).alloc (Nat.le_refl _) _
            have L2 := hide (L1.out.of hb2)
            have b2 := hide (b1.out.trans (hb2.mono (Nat.le_of_lt L1.out.bx.lt)))
            have Y2 := hide (B6.new w1 x 53)
            refine hK.out _ _ (HS.out _ b2.out) (fun hH2 => ?_)
            clear hK K hb2
            obtain ⟨w2, hw2⟩ : ∃ z9, z9 = (w1.alloc (.cells #[.int .i64 x.s, .bool x.k, .int .i64 x.n, .int .i64 x.lo, .int .i64 x.hi, .int .i64 x.p] 53)) := ⟨_, rfl⟩
            rw [← hw2] at hH2 L2 b2 Y2 ⊢
            clear hw2
            generalize w1.heap.size = nb at *
            refine wpAnyH_ready (rs := [9]) (by kernel_rfl) (by simp) ?_
            refine AllReadyH.cons (o := ({ dst := some 25, op := Op.call { callee := Callee.builtin Builtin.append, args := #[Operand.tmp 17, Operand.tmp 24], argTypes := #[27, 27] }, type := 27, pos := _, after := _, guard := _ } : Oper)) rfl (fun K hK => ?_) AllReadyH.nil
            · refine wp_appV' w2 (q2 + 1) 27 53 Try.underlying27 info53p (.tmp 17) (.tmp 24) rfl _ pv x nb L2.out.ov Y2.out rfl rfl ?_ (Nat.succ_le_of_lt L2.out.bx.lt) ?_
              · first | omega | (simp; omega)
              intro a3 c3 w3 hO3 hg3
              have b3 := hide (L2.out.belV b2.out hg3)
              refine hK.out _ _ (HS.out _ b3.out) (fun hH3 => ?_)
              clear hK K
              replace hO3 := hide hO3
              replace hg3 := hide hg3
              refine wpAnyH_take (i := 10) (oi := ({ dst := some 26, op := Op.fieldAddr 29 (Operand.tmp 3) 1, type := 0, pos := _, after := _, guard := _ } : Oper)) (v := ?_) rfl (by kernel_rfl) (by kernel_rfl) (by kernel_rfl) (fun _ _ _ h => h) (Or.inl ⟨by rfl, ?_⟩) (by assumption) ?_
              rotate_left
              · (intro wz hSw; (try dsimp only at hSw); go_simp; try with_reducible rfl)
              simp only [Act.put, List.setIfInBounds_toArray, List.set_cons_zero, List.set_cons_succ]
              refine wpAnyH_ready (rs := [11]) (by kernel_rfl) (by simp) ?_
              refine AllReadyH.cons (o := ({ dst := none, op := Op.store 27 (Operand.tmp 26) (Operand.tmp 25), type := 0, pos := _, after := _, guard := _ } : Oper)) rfl (fun K hK => ?_) AllReadyH.nil
              · have zb := (L2.out.boxV hg3.out).1
                have zf := (L2.out.boxV hg3.out).2
                have z0 := zb.c0
                have z1 := zb.c1
                have z2 := zb.c2
                have y0 := zf.f0
                have y1 := zf.f1
                have y2 := zf.f2
                clear zb zf
                go_simp
                have L4 := hide (L2.out.appV (by decide) (by decide) hO3.out hg3.out)
                have b4 := hide (b3.out.setCell (p := ⟨q2, 1, none⟩) (Nat.le_refl _) (.slice a3 (pv.length + 1) c3))
                refine hK.out _ _ (HS.out _ b4.out) (fun hH4 => ?_)
                clear hK K z0 z1 z2 y0 y1 y2
                obtain ⟨w4, hw4⟩ : ∃ z9, z9 = w3.setCell ⟨q2, 1, none⟩ (.slice a3 (pv.length + 1) c3) := ⟨_, rfl⟩
                rw [← hw4] at hH4 L4 b4  ⊢
                clear hw4
                refine wpAnyH_done (by kernel_rfl) ?_ _
                clear HS
                go_wp2_with fail
                exact ⟨⟨k + 1, _, by simp, by omega, ⟨KW.out.1.of (b4.out.block q0 FQ.out.1), KW.out.2.1.of (b4.out.block q1 FQ.out.2.1), KW.out.2.2.of (b4.out.block q1 FQ.out.2.1), by rw [take_more HX.out, ← HPV.out]; exact L4.out, BW.out.trans (b4.out.mono FQ.out.2.2.1)⟩⟩, by simp [intOf]; omega⟩
        · go_simp
          have hb2 : Below w1.heap.size w1 (w1.alloc (.cells #[.int .i64 x.s, .bool x.k, .int .i64 x.n, .int .i64 x.lo, .int .i64 x.hi, .int .i64 x.p] 53)) := (Below.refl _ _).alloc (Nat.le_refl _) _
          have L2 := hide (L1.out.of hb2)
          have b2 := hide (b1.out.trans (hb2.mono (Nat.le_of_lt L1.out.bx.lt)))
          have Y2 := hide (B6.new w1 x 53)
          refine hK.out _ _ (HS.out _ b2.out) (fun hH2 => ?_)
          clear hK K hb2
          obtain ⟨w2, hw2⟩ : ∃ z9, z9 = (w1.alloc (.cells #[.int .i64 x.s, .bool x.k, .int .i64 x.n, .int .i64 x.lo, .int .i64 x.hi, .int .i64 x.p] 53)) := ⟨_, rfl⟩
          rw [← hw2] at hH2 L2 b2 Y2 ⊢
          clear hw2
          generalize w1.heap.size = nb at *
          refine wpAnyH_ready (rs := [1]) (by kernel_rfl) (by simp) ?_
          refine AllReadyH.cons (o := ({ dst := some 17, op := Op.load 27 (Operand.tmp 16), type := 27, pos := _, after := _, guard := _ } : Oper)) rfl (fun K hK => ?_) AllReadyH.nil
          · have zc := L2.out.bx.c1
            go_simp
            refine hK.out _ _ hH2 (fun _ => ?_)
            clear hK K zc
            refine wpAnyH_ready (rs := [9]) (by kernel_rfl) (by simp) ?_
            refine AllReadyH.cons (o := ({ dst := some 25, op := Op.call { callee := Callee.builtin Builtin.append, args := #[Operand.tmp 17, Operand.tmp 24], argTypes := #[27, 27] }, type := 27, pos := _, after := _, guard := _ } : Oper)) rfl (fun K hK => ?_) AllReadyH.nil
            · refine wp_appV' w2 (q2 + 1) 27 53 Try.underlying27 info53p (.tmp 17) (.tmp 24) rfl _ pv x nb L2.out.ov Y2.out rfl rfl ?_ (Nat.succ_le_of_lt L2.out.bx.lt) ?_
              · first | omega | (simp; omega)
              intro a3 c3 w3 hO3 hg3
              have b3 := hide (L2.out.belV b2.out hg3)
              refine hK.out _ _ (HS.out _ b3.out) (fun hH3 => ?_)
              clear hK K
              replace hO3 := hide hO3
              replace hg3 := hide hg3
              refine wpAnyH_take (i := 10) (oi := ({ dst := some 26, op := Op.fieldAddr 29 (Operand.tmp 3) 1, type := 0, pos := _, after := _, guard := _ } : Oper)) (v := ?_) rfl (by kernel_rfl) (by kernel_rfl) (by kernel_rfl) (fun _ _ _ h => h) (Or.inl ⟨by rfl, ?_⟩) (by assumption) ?_
              rotate_left
              · (intro wz hSw; (try dsimp only at hSw); go_simp; try with_reducible rfl)
              simp only [Act.put, List.setIfInBounds_toArray, List.set_cons_zero, List.set_cons_succ]
              refine wpAnyH_ready (rs := [11]) (by kernel_rfl) (by simp) ?_
              refine AllReadyH.cons (o := ({ dst := none, op := Op.store 27 (Operand.tmp 26) (Operand.tmp 25), type := 0, pos := _, after := _, guard := _ } : Oper)) rfl (fun K hK => ?_) AllReadyH.nil
              · have zb := (L2.out.boxV hg3.out).1
                have zf := (L2.out.boxV hg3.out).2
                have z0 := zb.c0
                have z1 := zb.c1
                have z2 := zb.c2
                have y0 := zf.f0
                have y1 := zf.f1
                have y2 := zf.f2
                clear zb zf
                go_simp
                have L4 := hide (L2.out.appV (by decide) (by decide) hO3.out hg3.out)
                have b4 := hide (b3.out.setCell (p := ⟨q2, 1, none⟩) (Nat.le_refl _) (.slice a3 (pv.length + 1) c3))
                refine hK.out _ _ (HS.out _ b4.out) (fun hH4 => ?_)
                clear hK K z0 z1 z2 y0 y1 y2
                obtain ⟨w4, hw4⟩ : ∃ z9, z9 = w3.setCell ⟨q2, 1, none⟩ (.slice a3 (pv.length + 1) c3) := ⟨_, rfl⟩
                rw [← hw4] at hH4 L4 b4  ⊢
                clear hw4
                refine wpAnyH_done (by kernel_rfl) ?_ _
                clear HS
                go_wp2_with fail
                exact ⟨⟨k + 1, _, by simp, by omega, ⟨KW.out.1.of (b4.out.block q0 FQ.out.1), KW.out.2.1.of (b4.out.block q1 FQ.out.2.1), KW.out.2.2.of (b4.out.block q1 FQ.out.2.1), by rw [take_more HX.out, ← HPV.out]; exact L4.out, BW.out.trans (b4.out.mono FQ.out.2.2.1)⟩⟩, by simp [intOf]; omega⟩
end Go.Proofs.Ytmhicllhjiglkaa
namespace Go.Proofs.Ytmhicllhjiglkaa
open Go.RowKit
/-- all are Right -/
def rightL2 (sites : Int) : List R → List (List Int) → Bool
  | x :: t, l :: u => (rightR x.s x.k x.n x.lo x.hi x.p && ((decide (0 ≤ sites) && decide (sites ≤ 4096)) && rightL sites 0 l)) && rightL2 sites t u
  | _, _ => true
/-- may it be so? -/
def rightS (r : Bool) (vs : List R) (ss : List (List Int)) (regs sites : Int) : Bool :=
  if r = false then (decide (vs.length = 0) && decide (ss.length = 0)) else (decide ((vs.length : Int) = regs) && decide ((ss.length : Int) = regs)) && rightL2 sites vs ss
set_option maxRecDepth 100000 in
set_option maxHeartbeats 8000000 in
theorem right_S (a b : Option Addr) (c d : Nat) (r : Bool) (vs : List R) (ss : List (List Int)) (regs sites : Int) (w : World) (hv : RV w a vs) (hs : RR w b ss) (hl1 : vs.length ≤ 100000) (hl3 : ∀ (m : Nat) (l : List Int), ss[m]? = some l → l.length ≤ 100000) :
    Calls Try.prog 23 #[.agg #[.bool r, .slice a vs.length c, .slice b ss.length d], .int .i64 regs, .int .i64 sites] w fun e w' => e = .returned (.bool (rightS r vs ss regs sites)) ∧ Below w.heap.size w w' := by
  have HV := hide hv
  have HR := hide hs
  have HL3 := hide hl3
  have hl2 : (vs.length : Int) ≤ 100000 := by omega
  clear hv hs hl3
  cases r with
  | false =>
    by_cases h1 : vs.length = 0
    · by_cases h2 : ss.length = 0
      · have e : rightS false vs ss regs sites = true := by simp [rightS, h1, h2]
        rw [e]
        have b1 : ((vs.length : Int) == 0) = true := by simp [h1]
        have b2 : ((ss.length : Int) == 0) = true := by simp [h2]
        clear h1 h2 e
        go_enter Try.func23, Try.ntmps23
        go_wp2
        go_ret
        exact ⟨by simp, (Below.refl _ _).alloc (Nat.le_refl _) _⟩
      · have e : rightS false vs ss regs sites = false := by simp [rightS, h1, h2]
        rw [e]
        have b1 : ((vs.length : Int) == 0) = true := by simp [h1]
        have b2 : ((ss.length : Int) == 0) = false := beq_eq_false_iff_ne.2 (by omega)
        clear h1 h2 e
        go_enter Try.func23, Try.ntmps23
        go_wp2
        go_ret
        exact ⟨by simp, (Below.refl _ _).alloc (Nat.le_refl _) _⟩
    · have e : rightS false vs ss regs sites = false := by simp [rightS, h1]
      rw [e]
      have b1 : ((vs.length : Int) == 0) = false := beq_eq_false_iff_ne.2 (by omega)
      clear h1 e
      go_enter Try.func23, Try.ntmps23
      go_wp2
      go_ret
      exact ⟨by simp, (Below.refl _ _).alloc (Nat.le_refl _) _⟩
  | true =>
    by_cases h1 : (vs.length : Int) = regs
    · subst h1
      by_cases h2 : ss.length = vs.length
      · have e : rightS true vs ss vs.length sites = rightL2 sites vs ss := by simp [rightS, h2]
        rw [e]
        have b1 : ((vs.length : Int) != vs.length) = false := by simp
        have b2 : ((ss.length : Int) != vs.length) = false := by simp [h2]
        have h2' := hide h2
        clear h2 e
        go_enter Try.func23, Try.ntmps23
        go_upto_region 5 with fail
        go_name_world W hW
        obtain ⟨q0, h0⟩ : ∃ z9, z9 = w.heap.size := ⟨_, rfl⟩
        rw [← h0]
        have FQ : Hid (w.heap.size ≤ q0) := by unfold Hid; omega
        have H1 : Hid (Bs W q0 true (.slice a vs.length c) (.slice b ss.length d) ∧ Below w.heap.size w W) := by
          unfold Hid
          obtain ⟨B0, -, u⟩ := box1 w _ _ _ _ W hW
          rw [h0]
          exact ⟨B0, u⟩
        clear hW h0 b1 b2
        go_wp2_with fail
        go_loopw [34] (fun sk wr => ∃ (k : Nat), sk = .int .i64 k ∧ k ≤ vs.length ∧ Hid (Bs wr q0 true (.slice a vs.length c) (.slice b ss.length d) ∧ Below w.heap.size w wr ∧ rightL2 sites (vs.drop k) (ss.drop k) = rightL2 sites vs ss)) (fun sk _ => vs.length - (intOf sk).toNat)
        case atStart => exact ⟨0, rfl, Nat.zero_le _, H1.out.1, H1.out.2, rfl⟩
        case round =>
          obtain ⟨k, rfl, hk, h4⟩ := hrel
          clear H1
          by_cases hkv : k < vs.length
          · have hkv2 : (k : Int) < vs.length := by omega
            have hks : k < ss.length := by have := h2'.out; omega
            have hks2 : (k : Int) < ss.length := by omega
            obtain ⟨b1, o1, x, hX, rfl, hx6⟩ := HV.out.at hkv
            obtain ⟨b2, o2, l, ai, ci, hX2, rfl, hc1, hc2, hc3, hc4⟩ := HR.out.at hks
            have hl := HL3.out k l hX2
            have HD : Hid (rightL2 sites vs ss = ((rightR x.s x.k x.n x.lo x.hi x.p && ((decide (0 ≤ sites) && decide (sites ≤ 4096)) && rightL sites 0 l)) && rightL2 sites (vs.drop (k + 1)) (ss.drop (k + 1)))) := hide (by
              rw [← h4.out.2.2, List.drop_eq_getElem_cons hkv, List.drop_eq_getElem_cons hks]
              obtain ⟨_, e1⟩ := List.getElem?_eq_some_iff.1 hX
              obtain ⟨_, e2⟩ := List.getElem?_eq_some_iff.1 hX2
              rw [e1, e2]; rfl)
            have t6 := hx6.keep h4.out.2.1
            have d0 := t6.c0
            have d1 := t6.c1
            have d2 := t6.c2
            have d3 := t6.c3
            have d4 := t6.c4
            have d5 := t6.c5
            have e1 := h4.out.1.c1
            have HB := hide h4.out.1
            have HW := hide h4.out.2.1
            have HC := hide hc1
            have HI := hide hc2
            clear hX hX2 hx6 t6 h4 hc1 hc2 hc3 hc4
            have cF := fun w => right_V x.s x.k x.n x.lo x.hi x.p w
            generalize rightR x.s x.k x.n x.lo x.hi x.p = bv at *
            cases bv with
            | false =>
              have HE : Hid (rightL2 sites vs ss = false) := hide (by rw [HD.out]; rfl)
              clear HD
              go_wp2_with (go_at_call 59; refine (cF _).mono ?_; rintro e wA ⟨rfl, hA⟩; have bA := hide hA; clear hA)
              go_ret
              exact ⟨by rw [HE.out]; rfl, HW.out.trans (bA.out.mono HW.out.size)⟩
            | true =>
              have HD2 : Hid (rightL2 sites vs ss = (((decide (0 ≤ sites) && decide (sites ≤ 4096)) && rightL sites 0 l) && rightL2 sites (vs.drop (k + 1)) (ss.drop (k + 1)))) := hide (by rw [HD.out, Bool.true_and])
              clear HD
              have cB := fun w h => bright_any sites l ai ci w h (by omega)
              generalize ((decide (0 ≤ sites) && decide (sites ≤ 4096)) && rightL sites 0 l) = bb at *
              cases bb with
              | false =>
                have HE : Hid (rightL2 sites vs ss = false) := hide (by rw [HD2.out]; rfl)
                clear HD2
                go_wp2_with (first | (go_at_call 59; refine (cF _).mono ?_; rintro e wA ⟨rfl, hA⟩; have bA := hide hA; have e2 := (HB.out.keep hA).c2; have g2 := ((HW.out.trans (hA.mono HW.out.size)).cell (p := ⟨b2, o2 + k, none⟩) (World.block_lt_of_cell? w _ HC.out)).trans HC.out; clear hA cF d0 d1 d2 d3 d4 d5 e1) | (go_at_call 60; refine (cB _ (HI.out.keep' (HW.out.trans (bA.out.mono HW.out.size)))).mono ?_; rintro e wB ⟨hw, rfl⟩; obtain rfl := hw.symm))
                go_ret
                exact ⟨by rw [HE.out]; rfl, HW.out.trans (bA.out.mono HW.out.size)⟩
              | true =>
                have HE : Hid (rightL2 sites vs ss = rightL2 sites (vs.drop (k + 1)) (ss.drop (k + 1))) := hide (by rw [HD2.out, Bool.true_and])
                clear HD2
                go_wp2_with (first | (go_at_call 59; refine (cF _).mono ?_; rintro e wA ⟨rfl, hA⟩; have bA := hide hA; have e2 := (HB.out.keep hA).c2; have g2 := ((HW.out.trans (hA.mono HW.out.size)).cell (p := ⟨b2, o2 + k, none⟩) (World.block_lt_of_cell? w _ HC.out)).trans HC.out; clear hA cF d0 d1 d2 d3 d4 d5 e1) | (go_at_call 60; refine (cB _ (HI.out.keep' (HW.out.trans (bA.out.mono HW.out.size)))).mono ?_; rintro e wB ⟨hw, rfl⟩; obtain rfl := hw.symm))
                refine ⟨⟨k + 1, by simp, by omega, ⟨HB.out.keep bA.out, HW.out.trans (bA.out.mono HW.out.size), HE.out.symm⟩⟩, by simp [intOf]; omega⟩
          · have hke : k = vs.length := by omega
            subst hke
            have HE : Hid (rightL2 sites vs ss = true) := hide (by rw [← h4.out.2.2, List.drop_of_length_le (Nat.le_refl _)]; rfl)
            go_wp2_with fail
            go_ret
            exact ⟨by rw [HE.out]; rfl, h4.out.2.1⟩
      · have e : rightS true vs ss vs.length sites = false := by simp [rightS]; intro t; omega
        rw [e]
        have b1 : ((vs.length : Int) != vs.length) = false := by simp
        have b2 : ((ss.length : Int) != vs.length) = true := by rw [bne_iff_ne]; omega
        clear h2 e
        go_enter Try.func23, Try.ntmps23
        go_wp2
        go_ret
        exact ⟨by simp, (Below.refl _ _).alloc (Nat.le_refl _) _⟩
    · have e : rightS true vs ss regs sites = false := by simp [rightS, h1]
      rw [e]
      have b1 : ((vs.length : Int) != regs) = true := by rw [bne_iff_ne]; exact h1
      clear h1 e
      go_enter Try.func23, Try.ntmps23
      go_wp2
      go_ret
      exact ⟨by simp, (Below.refl _ _).alloc (Nat.le_refl _) _⟩
end Go.Proofs.Ytmhicllhjiglkaa
namespace Go.Proofs.Ytmhicllhjiglkaa
open Go.RowKit
set_option maxRecDepth 100000 in
set_option maxHeartbeats 8000000 in
theorem rightr_S (a b : Option Addr) (c d : Nat) (r : Bool) (vs : List R) (ss : List (List Int)) (regs sites : Int) (w : World) (hv : RV w a vs) (hs : RR w b ss) (hl1 : vs.length ≤ 100000) (hl3 : ∀ (m : Nat) (l : List Int), ss[m]? = some l → l.length ≤ 100000) :
    Calls Try.prog 24 #[.agg #[.bool r, .slice a vs.length c, .slice b ss.length d], .int .i64 regs, .int .i64 sites] w fun e w' => e = .returned (.bool (rightS r vs ss regs sites)) ∧ Below w.heap.size w w' := by
  have HV := hide hv
  have HR := hide hs
  have HL3 := hide hl3
  have hl2 : (vs.length : Int) ≤ 100000 := by omega
  clear hv hs hl3
  cases r with
  | false =>
    by_cases h1 : vs.length = 0
    · by_cases h2 : ss.length = 0
      · have e : rightS false vs ss regs sites = true := by simp [rightS, h1, h2]
        rw [e]
        have b1 : ((vs.length : Int) == 0) = true := by simp [h1]
        have b2 : ((ss.length : Int) == 0) = true := by simp [h2]
        clear h1 h2 e
        go_enter Try.func24, Try.ntmps24
        go_wp2
        go_ret
        exact ⟨by simp, (Below.refl _ _).alloc (Nat.le_refl _) _⟩
      · have e : rightS false vs ss regs sites = false := by simp [rightS, h1, h2]
        rw [e]
        have b1 : ((vs.length : Int) == 0) = true := by simp [h1]
        have b2 : ((ss.length : Int) == 0) = false := beq_eq_false_iff_ne.2 (by omega)
        clear h1 h2 e
        go_enter Try.func24, Try.ntmps24
        go_wp2
        go_ret
        exact ⟨by simp, (Below.refl _ _).alloc (Nat.le_refl _) _⟩
    · have e : rightS false vs ss regs sites = false := by simp [rightS, h1]
      rw [e]
      have b1 : ((vs.length : Int) == 0) = false := beq_eq_false_iff_ne.2 (by omega)
      clear h1 e
      go_enter Try.func24, Try.ntmps24
      go_wp2
      go_ret
      exact ⟨by simp, (Below.refl _ _).alloc (Nat.le_refl _) _⟩
  | true =>
    by_cases h1 : (vs.length : Int) = regs
    · subst h1
      by_cases h2 : ss.length = vs.length
      · have e : rightS true vs ss vs.length sites = rightL2 sites vs ss := by simp [rightS, h2]
        rw [e]
        have b1 : ((vs.length : Int) != vs.length) = false := by simp
        have b2 : ((ss.length : Int) != vs.length) = false := by simp [h2]
        have h2' := hide h2
        clear h2 e
        go_enter Try.func24, Try.ntmps24
        go_upto_region 5 with fail
        go_name_world W hW
        obtain ⟨q0, h0⟩ : ∃ z9, z9 = w.heap.size := ⟨_, rfl⟩
        rw [← h0]
        have FQ : Hid (w.heap.size ≤ q0) := by unfold Hid; omega
        have H1 : Hid (Bs W q0 true (.slice a vs.length c) (.slice b ss.length d) ∧ Below w.heap.size w W) := by
          unfold Hid
          obtain ⟨B0, -, u⟩ := box1 w _ _ _ _ W hW
          rw [h0]
          exact ⟨B0, u⟩
        clear hW h0 b1 b2
        go_wp2_with fail
        go_loopw [7] (fun sk wr => ∃ (k : Nat), sk = .int .i64 k ∧ k ≤ vs.length ∧ Hid (Bs wr q0 true (.slice a vs.length c) (.slice b ss.length d) ∧ Below w.heap.size w wr ∧ rightL2 sites (vs.drop k) (ss.drop k) = rightL2 sites vs ss)) (fun sk _ => vs.length - (intOf sk).toNat)
        case atStart => exact ⟨0, rfl, Nat.zero_le _, H1.out.1, H1.out.2, rfl⟩
        case round =>
          obtain ⟨k, rfl, hk, h4⟩ := hrel
          clear H1
          by_cases hkv : k < vs.length
          · have hkv2 : (k : Int) < vs.length := by omega
            have hks : k < ss.length := by have := h2'.out; omega
            have hks2 : (k : Int) < ss.length := by omega
            obtain ⟨b1, o1, x, hX, rfl, hx6⟩ := HV.out.at hkv
            obtain ⟨b2, o2, l, ai, ci, hX2, rfl, hc1, hc2, hc3, hc4⟩ := HR.out.at hks
            have hl := HL3.out k l hX2
            have HD : Hid (rightL2 sites vs ss = ((rightR x.s x.k x.n x.lo x.hi x.p && ((decide (0 ≤ sites) && decide (sites ≤ 4096)) && rightL sites 0 l)) && rightL2 sites (vs.drop (k + 1)) (ss.drop (k + 1)))) := hide (by
              rw [← h4.out.2.2, List.drop_eq_getElem_cons hkv, List.drop_eq_getElem_cons hks]
              obtain ⟨_, e1⟩ := List.getElem?_eq_some_iff.1 hX
              obtain ⟨_, e2⟩ := List.getElem?_eq_some_iff.1 hX2
              rw [e1, e2]; rfl)
            have t6 := hx6.keep h4.out.2.1
            have d0 := t6.c0
            have d1 := t6.c1
            have d2 := t6.c2
            have d3 := t6.c3
            have d4 := t6.c4
            have d5 := t6.c5
            have e1 := h4.out.1.c1
            have HB := hide h4.out.1
            have HW := hide h4.out.2.1
            have HC := hide hc1
            have HI := hide hc2
            clear hX hX2 hx6 t6 h4 hc1 hc2 hc3 hc4
            have cF := fun w => rightr_V x.s x.k x.n x.lo x.hi x.p w
            generalize rightR x.s x.k x.n x.lo x.hi x.p = bv at *
            cases bv with
            | false =>
              have HE : Hid (rightL2 sites vs ss = false) := hide (by rw [HD.out]; rfl)
              clear HD
              go_wp2_with (go_at_call 61; refine (cF _).mono ?_; rintro e wA ⟨rfl, hA⟩; have bA := hide hA; clear hA)
              go_ret
              exact ⟨by rw [HE.out]; rfl, HW.out.trans (bA.out.mono HW.out.size)⟩
            | true =>
              have HD2 : Hid (rightL2 sites vs ss = (((decide (0 ≤ sites) && decide (sites ≤ 4096)) && rightL sites 0 l) && rightL2 sites (vs.drop (k + 1)) (ss.drop (k + 1)))) := hide (by rw [HD.out, Bool.true_and])
              clear HD
              have cB := fun w h => brright_any sites l ai ci w h hl
              generalize ((decide (0 ≤ sites) && decide (sites ≤ 4096)) && rightL sites 0 l) = bb at *
              cases bb with
              | false =>
                have HE : Hid (rightL2 sites vs ss = false) := hide (by rw [HD2.out]; rfl)
                clear HD2
                go_wp2_with (first | (go_at_call 61; refine (cF _).mono ?_; rintro e wA ⟨rfl, hA⟩; have bA := hide hA; have e2 := (HB.out.keep hA).c2; have g2 := ((HW.out.trans (hA.mono HW.out.size)).cell (p := ⟨b2, o2 + k, none⟩) (World.block_lt_of_cell? w _ HC.out)).trans HC.out; clear hA cF d0 d1 d2 d3 d4 d5 e1) | (go_at_call 62; refine (cB _ (HI.out.keep' (HW.out.trans (bA.out.mono HW.out.size)))).mono ?_; rintro e wB ⟨⟨jq, rfl⟩, rfl⟩; replace bA := hide (below_drewN bA.out jq)))
                go_ret
                exact ⟨by rw [HE.out]; rfl, HW.out.trans (bA.out.mono HW.out.size)⟩
              | true =>
                have HE : Hid (rightL2 sites vs ss = rightL2 sites (vs.drop (k + 1)) (ss.drop (k + 1))) := hide (by rw [HD2.out, Bool.true_and])
                clear HD2
                go_wp2_with (first | (go_at_call 61; refine (cF _).mono ?_; rintro e wA ⟨rfl, hA⟩; have bA := hide hA; have e2 := (HB.out.keep hA).c2; have g2 := ((HW.out.trans (hA.mono HW.out.size)).cell (p := ⟨b2, o2 + k, none⟩) (World.block_lt_of_cell? w _ HC.out)).trans HC.out; clear hA cF d0 d1 d2 d3 d4 d5 e1) | (go_at_call 62; refine (cB _ (HI.out.keep' (HW.out.trans (bA.out.mono HW.out.size)))).mono ?_; rintro e wB ⟨⟨jq, rfl⟩, rfl⟩; replace bA := hide (below_drewN bA.out jq)))
                refine ⟨⟨k + 1, by simp, by omega, ⟨HB.out.keep bA.out, HW.out.trans (bA.out.mono HW.out.size), HE.out.symm⟩⟩, by simp [intOf]; omega⟩
          · have hke : k = vs.length := by omega
            subst hke
            have HE : Hid (rightL2 sites vs ss = true) := hide (by rw [← h4.out.2.2, List.drop_of_length_le (Nat.le_refl _)]; rfl)
            go_wp2_with fail
            go_ret
            exact ⟨by rw [HE.out]; rfl, h4.out.2.1⟩
      · have e : rightS true vs ss vs.length sites = false := by simp [rightS]; intro t; omega
        rw [e]
        have b1 : ((vs.length : Int) != vs.length) = false := by simp
        have b2 : ((ss.length : Int) != vs.length) = true := by rw [bne_iff_ne]; omega
        clear h2 e
        go_enter Try.func24, Try.ntmps24
        go_wp2
        go_ret
        exact ⟨by simp, (Below.refl _ _).alloc (Nat.le_refl _) _⟩
    · have e : rightS true vs ss regs sites = false := by simp [rightS, h1]
      rw [e]
      have b1 : ((vs.length : Int) != regs) = true := by rw [bne_iff_ne]; exact h1
      clear h1 e
      go_enter Try.func24, Try.ntmps24
      go_wp2
      go_ret
      exact ⟨by simp, (Below.refl _ _).alloc (Nat.le_refl _) _⟩
end Go.Proofs.Ytmhicllhjiglkaa
namespace Go.Proofs.Ytmhicllhjiglkaa
open Go.RowKit
set_option maxRecDepth 100000 in
set_option maxHeartbeats 16000000 in
theorem ofr_V (n : Int) (w : World) (hn : i64 n) : Calls Try.prog 39 #[.int .i64 n] w fun e w' => e = .returned (.agg #[.int .i64 (up (ofV n).s), .bool (ofV n).k, .int .i64 (ofV n).n, .int .i64 (ofV n).lo, .int .i64 (ofV n).hi, .int .i64 (up (ofV n).p)]) ∧ Below w.heap.size w w' := by
  have c1 := fun w => bel0 (sofr_any n w)
  have c2 := fun w => bel0 (pofr_any n hn w)
  have x0 : Br (w.alloc (.cells #[.int .i64 0, .bool false, .int .i64 0, .int .i64 0, .int .i64 0, .int .i64 0] 48)) (w.heap.size) 0 false 0 0 0 0 := (Br.new w 0 false 0 0 0 0 48)
  have xf : Fz (w.alloc (.cells #[.int .i64 0, .bool false, .int .i64 0, .int .i64 0, .int .i64 0, .int .i64 0] 48)) (w.heap.size) := by simpa using Fz.new w 0 false 0 0 0 0 48
  have xb : Below w.heap.size w (w.alloc (.cells #[.int .i64 0, .bool false, .int .i64 0, .int .i64 0, .int .i64 0, .int .i64 0] 48)) := (by repeat (first | exact Below.refl _ _ | (refine Below.drew ?_) | (refine below_drewN ?_ _) | (refine Below.setCell ?_ (by first | omega | (simp; done) | (simp; omega)) _) | (refine Below.alloc ?_ (by first | omega | (simp; done) | (simp; omega)) _) | (refine Below.trans ?_ (Below.mono (by assumption) (by first | omega | (simp; done) | (simp; omega))))))
  go_enter Try.func39, Try.ntmps39
  go_upto_region 1 with fail
  go_name_world W hW
  rw [hW] at x0 xf xb
  clear hW
  obtain ⟨N, hN⟩ : ∃ N, N = w.heap.size := ⟨_, rfl⟩
  rw [← hN] at x0 xf xb ⊢
  have HN : Hid (N = w.heap.size) := hN
  clear hN
  have HA := hide (And.intro x0 (And.intro xf xb))
  clear x0 xf xb
  have a0 := HA.out.1.c0
  have a1 := HA.out.1.c1
  have a2 := HA.out.1.c2
  have a3 := HA.out.1.c3
  have a4 := HA.out.1.c4
  have a5 := HA.out.1.c5
  have f0 := HA.out.2.1.f0
  have f1 := HA.out.2.1.f1
  have f2 := HA.out.2.1.f2
  have f3 := HA.out.2.1.f3
  have f4 := HA.out.2.1.f4
  have f5 := HA.out.2.1.f5
  go_wp2_with (first | (go_at_call 77; refine (c1 _).mono ?_; rintro e w1 ⟨rfl, hb1⟩; have HB := hide (And.intro (HA.out.1.keep hb1) (And.intro (HA.out.2.1.keep HA.out.1.lt hb1) (HA.out.2.2.trans (hb1.mono (Nat.le_of_lt HA.out.1.lt))))); clear HA hb1 a0 a1 a2 a3 a4 a5 f0 f1 f2 f3 f4 f5; have HA := HB; clear HB; have a0 := HA.out.1.c0; have a1 := HA.out.1.c1; have a2 := HA.out.1.c2; have a3 := HA.out.1.c3; have a4 := HA.out.1.c4; have a5 := HA.out.1.c5; have f0 := HA.out.2.1.f0; have f1 := HA.out.2.1.f1; have f2 := HA.out.2.1.f2; have f3 := HA.out.2.1.f3; have f4 := HA.out.2.1.f4; have f5 := HA.out.2.1.f5) | (go_at_call 78; refine (c2 _).mono ?_; rintro e w1 ⟨rfl, hb1⟩; have HB := hide (And.intro (HA.out.1.keep hb1) (And.intro (HA.out.2.1.keep HA.out.1.lt hb1) (HA.out.2.2.trans (hb1.mono (Nat.le_of_lt HA.out.1.lt))))); clear HA hb1 a0 a1 a2 a3 a4 a5 f0 f1 f2 f3 f4 f5; have HA := HB; clear HB; have a0 := HA.out.1.c0; have a1 := HA.out.1.c1; have a2 := HA.out.1.c2; have a3 := HA.out.1.c3; have a4 := HA.out.1.c4; have a5 := HA.out.1.c5; have f0 := HA.out.2.1.f0; have f1 := HA.out.2.1.f1; have f2 := HA.out.2.1.f2; have f3 := HA.out.2.1.f3; have f4 := HA.out.2.1.f4; have f5 := HA.out.2.1.f5))
  have zw := HA.out.1.wrote (up (sg n)) true n n n (up (pr n))
  have hZ := st6_below HA.out.2.2 N (Nat.le_refl _) (.int .i64 (up (sg n))) (.bool true) (.int .i64 n) (.int .i64 n) (.int .i64 n) (.int .i64 (up (pr n)))
  clear HA c1 c2 a0 a1 a2 a3 a4 a5 f0 f1 f2 f3 f4 f5
  have a0 := zw.c0
  have a1 := zw.c1
  have a2 := zw.c2
  have a3 := zw.c3
  have a4 := zw.c4
  have a5 := zw.c5
  clear zw
  refine bodyPost_ret (by simp [results, Try.results39, go_sem, *]; try rfl) rfl ⟨?_, by rw [← HN.out]; exact hZ⟩
  rfl
set_option maxRecDepth 100000 in
set_option maxHeartbeats 16000000 in
theorem has_V (x : V) (n : Int) (w : World) : Calls Try.prog 72 #[.agg #[.int .i64 (up x.s), .bool x.k, .int .i64 x.n, .int .i64 x.lo, .int .i64 x.hi, .int .i64 (up x.p)], .int .i64 n] w fun e w' => e = .returned (.bool (hasV x n)) ∧ Below w.heap.size w w' := by
  have c1 := fun w => bel0 (shas_any (up x.s) n w)
  have c2 := fun w => bel1 (khas_any x.k x.n n w)
  have c3 := fun w => bel1 (nhas_any x.lo x.hi n w)
  have c4 := fun w => bel0 (phas_any (up x.p) n w)
  rw [low_up] at c1 c4
  have HR : Hid (hasV x n = (hasS x.s n && (hasK x.k x.n n && (hasR x.lo x.hi n && hasP x.p n)))) := rfl
  generalize hasV x n = r at *
  generalize hasS x.s n = t1 at *
  generalize hasK x.k x.n n = t2 at *
  generalize hasR x.lo x.hi n = t3 at *
  generalize hasP x.p n = t4 at *
  cases t1
  · have x0 : Br (w.alloc (.cells #[.int .i64 (up x.s), .bool x.k, .int .i64 x.n, .int .i64 x.lo, .int .i64 x.hi, .int .i64 (up x.p)] 53)) (w.heap.size) (up x.s) x.k x.n x.lo x.hi (up x.p) := (Br.new w (up x.s) x.k x.n x.lo x.hi (up x.p) 53)
    have xb : Below w.heap.size w (w.alloc (.cells #[.int .i64 (up x.s), .bool x.k, .int .i64 x.n, .int .i64 x.lo, .int .i64 x.hi, .int .i64 (up x.p)] 53)) := (by repeat (first | exact Below.refl _ _ | (refine Below.drew ?_) | (refine below_drewN ?_ _) | (refine Below.setCell ?_ (by first | omega | (simp; done) | (simp; omega)) _) | (refine Below.alloc ?_ (by first | omega | (simp; done) | (simp; omega)) _) | (refine Below.trans ?_ (Below.mono (by assumption) (by first | omega | (simp; done) | (simp; omega))))))
    go_enter Try.func72, Try.ntmps72
    go_upto_region 1 with fail
    go_name_world W hW
    rw [hW] at x0 xb
    clear hW
    obtain ⟨N, hN⟩ : ∃ N, N = w.heap.size := ⟨_, rfl⟩
    rw [← hN] at x0 xb ⊢
    have HN : Hid (N = w.heap.size) := hN
    clear hN
    have HA := hide (And.intro x0 xb)
    clear x0 xb
    have a0 := HA.out.1.c0
    have a1 := HA.out.1.c1
    have a2 := HA.out.1.c2
    have a3 := HA.out.1.c3
    have a4 := HA.out.1.c4
    have a5 := HA.out.1.c5
    go_wp2_with (first | (go_at_call 119; refine (c1 _).mono ?_; rintro e w1 ⟨rfl, hb1⟩; have HB := hide (And.intro (HA.out.1.keep hb1) (HA.out.2.trans (hb1.mono (Nat.le_of_lt HA.out.1.lt)))); clear HA hb1 a0 a1 a2 a3 a4 a5; have HA := HB; clear HB; have a0 := HA.out.1.c0; have a1 := HA.out.1.c1; have a2 := HA.out.1.c2; have a3 := HA.out.1.c3; have a4 := HA.out.1.c4; have a5 := HA.out.1.c5) | (go_at_call 120; refine (c2 _).mono ?_; rintro e w1 ⟨rfl, hb1⟩; have HB := hide (And.intro (HA.out.1.keep hb1) (HA.out.2.trans (hb1.mono (Nat.le_of_lt HA.out.1.lt)))); clear HA hb1 a0 a1 a2 a3 a4 a5; have HA := HB; clear HB; have a0 := HA.out.1.c0; have a1 := HA.out.1.c1; have a2 := HA.out.1.c2; have a3 := HA.out.1.c3; have a4 := HA.out.1.c4; have a5 := HA.out.1.c5) | (go_at_call 121; refine (c3 _).mono ?_; rintro e w1 ⟨rfl, hb1⟩; have HB := hide (And.intro (HA.out.1.keep hb1) (HA.out.2.trans (hb1.mono (Nat.le_of_lt HA.out.1.lt)))); clear HA hb1 a0 a1 a2 a3 a4 a5; have HA := HB; clear HB; have a0 := HA.out.1.c0; have a1 := HA.out.1.c1; have a2 := HA.out.1.c2; have a3 := HA.out.1.c3; have a4 := HA.out.1.c4; have a5 := HA.out.1.c5) | (go_at_call 122; refine (c4 _).mono ?_; rintro e w1 ⟨rfl, hb1⟩; have HB := hide (And.intro (HA.out.1.keep hb1) (HA.out.2.trans (hb1.mono (Nat.le_of_lt HA.out.1.lt)))); clear HA hb1 a0 a1 a2 a3 a4 a5; have HA := HB; clear HB; have a0 := HA.out.1.c0; have a1 := HA.out.1.c1; have a2 := HA.out.1.c2; have a3 := HA.out.1.c3; have a4 := HA.out.1.c4; have a5 := HA.out.1.c5))
    clear c1 c2 c3 c4
    go_ret
    exact ⟨by rw [HR.out]; rfl, by rw [← HN.out]; exact HA.out.2⟩
  · cases t2
    · have x0 : Br (w.alloc (.cells #[.int .i64 (up x.s), .bool x.k, .int .i64 x.n, .int .i64 x.lo, .int .i64 x.hi, .int .i64 (up x.p)] 53)) (w.heap.size) (up x.s) x.k x.n x.lo x.hi (up x.p) := (Br.new w (up x.s) x.k x.n x.lo x.hi (up x.p) 53)
      have xb : Below w.heap.size w (w.alloc (.cells #[.int .i64 (up x.s), .bool x.k, .int .i64 x.n, .int .i64 x.lo, .int .i64 x.hi, .int .i64 (up x.p)] 53)) := (by repeat (first | exact Below.refl _ _ | (refine Below.drew ?_) | (refine below_drewN ?_ _) | (refine Below.setCell ?_ (by first | omega | (simp; done) | (simp; omega)) _) | (refine Below.alloc ?_ (by first | omega | (simp; done) | (simp; omega)) _) | (refine Below.trans ?_ (Below.mono (by assumption) (by first | omega | (simp; done) | (simp; omega))))))
      go_enter Try.func72, Try.ntmps72
      go_upto_region 1 with fail
      go_name_world W hW
      rw [hW] at x0 xb
      clear hW
      obtain ⟨N, hN⟩ : ∃ N, N = w.heap.size := ⟨_, rfl⟩
      rw [← hN] at x0 xb ⊢
      have HN : Hid (N = w.heap.size) := hN
      clear hN
      have HA := hide (And.intro x0 xb)
      clear x0 xb
      have a0 := HA.out.1.c0
      have a1 := HA.out.1.c1
      have a2 := HA.out.1.c2
      have a3 := HA.out.1.c3
      have a4 := HA.out.1.c4
      have a5 := HA.out.1.c5
      go_wp2_with (first | (go_at_call 119; refine (c1 _).mono ?_; rintro e w1 ⟨rfl, hb1⟩; have HB := hide (And.intro (HA.out.1.keep hb1) (HA.out.2.trans (hb1.mono (Nat.le_of_lt HA.out.1.lt)))); clear HA hb1 a0 a1 a2 a3 a4 a5; have HA := HB; clear HB; have a0 := HA.out.1.c0; have a1 := HA.out.1.c1; have a2 := HA.out.1.c2; have a3 := HA.out.1.c3; have a4 := HA.out.1.c4; have a5 := HA.out.1.c5) | (go_at_call 120; refine (c2 _).mono ?_; rintro e w1 ⟨rfl, hb1⟩; have HB := hide (And.intro (HA.out.1.keep hb1) (HA.out.2.trans (hb1.mono (Nat.le_of_lt HA.out.1.lt)))); clear HA hb1 a0 a1 a2 a3 a4 a5; have HA := HB; clear HB; have a0 := HA.out.1.c0; have a1 := HA.out.1.c1; have a2 := HA.out.1.c2; have a3 := HA.out.1.c3; have a4 := HA.out.1.c4; have a5 := HA.out.1.c5) | (go_at_call 121; refine (c3 _).mono ?_; rintro e w1 ⟨rfl, hb1⟩; have HB := hide (And.intro (HA.out.1.keep hb1) (HA.out.2.trans (hb1.mono (Nat.le_of_lt HA.out.1.lt)))); clear HA hb1 a0 a1 a2 a3 a4 a5; have HA := HB; clear HB; have a0 := HA.out.1.c0; have a1 := HA.out.1.c1; have a2 := HA.out.1.c2; have a3 := HA.out.1.c3; have a4 := HA.out.1.c4; have a5 := HA.out.1.c5) | (go_at_call 122; refine (c4 _).mono ?_; rintro e w1 ⟨rfl, hb1⟩; have HB := hide (And.intro (HA.out.1.keep hb1) (HA.out.2.trans (hb1.mono (Nat.le_of_lt HA.out.1.lt)))); clear HA hb1 a0 a1 a2 a3 a4 a5; have HA := HB; clear HB; have a0 := HA.out.1.c0; have a1 := HA.out.1.c1; have a2 := HA.out.1.c2; have a3 := HA.out.1.c3; have a4 := HA.out.1.c4; have a5 := HA.out.1.c5))
      clear c1 c2 c3 c4
      go_ret
      exact ⟨by rw [HR.out]; rfl, by rw [← HN.out]; exact HA.out.2⟩
    · cases t3
      · have x0 : Br (w.alloc (.cells #[.int .i64 (up x.s), .bool x.k, .int .i64 x.n, .int .i64 x.lo, .int .i64 x.hi, .int .i64 (up x.p)] 53)) (w.heap.size) (up x.s) x.k x.n x.lo x.hi (up x.p) := (Br.new w (up x.s) x.k x.n x.lo x.hi (up x.p) 53)
        have xb : Below w.heap.size w (w.alloc (.cells #[.int .i64 (up x.s), .bool x.k, .int .i64 x.n, .int .i64 x.lo, .int .i64 x.hi, .int .i64 (up x.p)] 53)) := (by repeat (first | exact Below.refl _ _ | (refine Below.drew ?_) | (refine below_drewN ?_ _) | (refine Below.setCell ?_ (by first | omega | (simp; done) | (simp; omega)) _) | (refine Below.alloc ?_ (by first | omega | (simp; done) | (simp; omega)) _) | (refine Below.trans ?_ (Below.mono (by assumption) (by first | omega | (simp; done) | (simp; omega))))))
        go_enter Try.func72, Try.ntmps72
        go_upto_region 1 with fail
        go_name_world W hW
        rw [hW] at x0 xb
        clear hW
        obtain ⟨N, hN⟩ : ∃ N, N = w.heap.size := ⟨_, rfl⟩
        rw [← hN] at x0 xb ⊢
        have HN : Hid (N = w.heap.size) := hN
        clear hN
        have HA := hide (And.intro x0 xb)
        clear x0 xb
        have a0 := HA.out.1.c0
        have a1 := HA.out.1.c1
        have a2 := HA.out.1.c2
        have a3 := HA.out.1.c3
        have a4 := HA.out.1.c4
        have a5 := HA.out.1.c5
        go_wp2_with (first | (go_at_call 119; refine (c1 _).mono ?_; rintro e w1 ⟨rfl, hb1⟩; have HB := hide (And.intro (HA.out.1.keep hb1) (HA.out.2.trans (hb1.mono (Nat.le_of_lt HA.out.1.lt)))); clear HA hb1 a0 a1 a2 a3 a4 a5; have HA := HB; clear HB; have a0 := HA.out.1.c0; have a1 := HA.out.1.c1; have a2 := HA.out.1.c2; have a3 := HA.out.1.c3; have a4 := HA.out.1.c4; have a5 := HA.out.1.c5) | (go_at_call 120; refine (c2 _).mono ?_; rintro e w1 ⟨rfl, hb1⟩; have HB := hide (And.intro (HA.out.1.keep hb1) (HA.out.2.trans (hb1.mono (Nat.le_of_lt HA.out.1.lt)))); clear HA hb1 a0 a1 a2 a3 a4 a5; have HA := HB; clear HB; have a0 := HA.out.1.c0; have a1 := HA.out.1.c1; have a2 := HA.out.1.c2; have a3 := HA.out.1.c3; have a4 := HA.out.1.c4; have a5 := HA.out.1.c5) | (go_at_call 121; refine (c3 _).mono ?_; rintro e w1 ⟨rfl, hb1⟩; have HB := hide (And.intro (HA.out.1.keep hb1) (HA.out.2.trans (hb1.mono (Nat.le_of_lt HA.out.1.lt)))); clear HA hb1 a0 a1 a2 a3 a4 a5; have HA := HB; clear HB; have a0 := HA.out.1.c0; have a1 := HA.out.1.c1; have a2 := HA.out.1.c2; have a3 := HA.out.1.c3; have a4 := HA.out.1.c4; have a5 := HA.out.1.c5) | (go_at_call 122; refine (c4 _).mono ?_; rintro e w1 ⟨rfl, hb1⟩; have HB := hide (And.intro (HA.out.1.keep hb1) (HA.out.2.trans (hb1.mono (Nat.le_of_lt HA.out.1.lt)))); clear HA hb1 a0 a1 a2 a3 a4 a5; have HA := HB; clear HB; have a0 := HA.out.1.c0; have a1 := HA.out.1.c1; have a2 := HA.out.1.c2; have a3 := HA.out.1.c3; have a4 := HA.out.1.c4; have a5 := HA.out.1.c5))
        clear c1 c2 c3 c4
        go_ret
        exact ⟨by rw [HR.out]; rfl, by rw [← HN.out]; exact HA.out.2⟩
      · have x0 : Br (w.alloc (.cells #[.int .i64 (up x.s), .bool x.k, .int .i64 x.n, .int .i64 x.lo, .int .i64 x.hi, .int .i64 (up x.p)] 53)) (w.heap.size) (up x.s) x.k x.n x.lo x.hi (up x.p) := (Br.new w (up x.s) x.k x.n x.lo x.hi (up x.p) 53)
        have xb : Below w.heap.size w (w.alloc (.cells #[.int .i64 (up x.s), .bool x.k, .int .i64 x.n, .int .i64 x.lo, .int .i64 x.hi, .int .i64 (up x.p)] 53)) := (by repeat (first | exact Below.refl _ _ | (refine Below.drew ?_) | (refine below_drewN ?_ _) | (refine Below.setCell ?_ (by first | omega | (simp; done) | (simp; omega)) _) | (refine Below.alloc ?_ (by first | omega | (simp; done) | (simp; omega)) _) | (refine Below.trans ?_ (Below.mono (by assumption) (by first | omega | (simp; done) | (simp; omega))))))
        go_enter Try.func72, Try.ntmps72
        go_upto_region 1 with fail
        go_name_world W hW
        rw [hW] at x0 xb
        clear hW
        obtain ⟨N, hN⟩ : ∃ N, N = w.heap.size := ⟨_, rfl⟩
        rw [← hN] at x0 xb ⊢
        have HN : Hid (N = w.heap.size) := hN
        clear hN
        have HA := hide (And.intro x0 xb)
        clear x0 xb
        have a0 := HA.out.1.c0
        have a1 := HA.out.1.c1
        have a2 := HA.out.1.c2
        have a3 := HA.out.1.c3
        have a4 := HA.out.1.c4
        have a5 := HA.out.1.c5
        go_wp2_with (first | (go_at_call 119; refine (c1 _).mono ?_; rintro e w1 ⟨rfl, hb1⟩; have HB := hide (And.intro (HA.out.1.keep hb1) (HA.out.2.trans (hb1.mono (Nat.le_of_lt HA.out.1.lt)))); clear HA hb1 a0 a1 a2 a3 a4 a5; have HA := HB; clear HB; have a0 := HA.out.1.c0; have a1 := HA.out.1.c1; have a2 := HA.out.1.c2; have a3 := HA.out.1.c3; have a4 := HA.out.1.c4; have a5 := HA.out.1.c5) | (go_at_call 120; refine (c2 _).mono ?_; rintro e w1 ⟨rfl, hb1⟩; have HB := hide (And.intro (HA.out.1.keep hb1) (HA.out.2.trans (hb1.mono (Nat.le_of_lt HA.out.1.lt)))); clear HA hb1 a0 a1 a2 a3 a4 a5; have HA := HB; clear HB; have a0 := HA.out.1.c0; have a1 := HA.out.1.c1; have a2 := HA.out.1.c2; have a3 := HA.out.1.c3; have a4 := HA.out.1.c4; have a5 := HA.out.1.c5) | (go_at_call 121; refine (c3 _).mono ?_; rintro e w1 ⟨rfl, hb1⟩; have HB := hide (And.intro (HA.out.1.keep hb1) (HA.out.2.trans (hb1.mono (Nat.le_of_lt HA.out.1.lt)))); clear HA hb1 a0 a1 a2 a3 a4 a5; have HA := HB; clear HB; have a0 := HA.out.1.c0; have a1 := HA.out.1.c1; have a2 := HA.out.1.c2; have a3 := HA.out.1.c3; have a4 := HA.out.1.c4; have a5 := HA.out.1.c5) | (go_at_call 122; refine (c4 _).mono ?_; rintro e w1 ⟨rfl, hb1⟩; have HB := hide (And.intro (HA.out.1.keep hb1) (HA.out.2.trans (hb1.mono (Nat.le_of_lt HA.out.1.lt)))); clear HA hb1 a0 a1 a2 a3 a4 a5; have HA := HB; clear HB; have a0 := HA.out.1.c0; have a1 := HA.out.1.c1; have a2 := HA.out.1.c2; have a3 := HA.out.1.c3; have a4 := HA.out.1.c4; have a5 := HA.out.1.c5))
        clear c1 c2 c3 c4
        go_ret
        exact ⟨by rw [HR.out]; rfl, by rw [← HN.out]; exact HA.out.2⟩
set_option maxRecDepth 100000 in
set_option maxHeartbeats 16000000 in
theorem hasr_V (x : V) (n : Int) (w : World) (hn : i64 n) : Calls Try.prog 75 #[.agg #[.int .i64 (up x.s), .bool x.k, .int .i64 x.n, .int .i64 x.lo, .int .i64 x.hi, .int .i64 (up x.p)], .int .i64 n] w fun e w' => e = .returned (.bool (hasV x n)) ∧ Below w.heap.size w w' := by
  have c1 := fun w => bel0 (shasr_any (up x.s) n w)
  have c2 := fun w => bel1 (khasr_any x.k x.n n w)
  have c3 := fun w => bel1 (nhasr_any x.lo x.hi n w)
  have c4 := fun w => bel0 (phasr_any (up x.p) n hn w)
  rw [low_up] at c1 c4
  have HR : Hid (hasV x n = (hasS x.s n && (hasK x.k x.n n && (hasR x.lo x.hi n && hasP x.p n)))) := rfl
  generalize hasV x n = r at *
  generalize hasS x.s n = t1 at *
  generalize hasK x.k x.n n = t2 at *
  generalize hasR x.lo x.hi n = t3 at *
  generalize hasP x.p n = t4 at *
  clear hn
  cases t1
  · have x0 : Br (w.alloc (.cells #[.int .i64 (up x.s), .bool x.k, .int .i64 x.n, .int .i64 x.lo, .int .i64 x.hi, .int .i64 (up x.p)] 48)) (w.heap.size) (up x.s) x.k x.n x.lo x.hi (up x.p) := (Br.new w (up x.s) x.k x.n x.lo x.hi (up x.p) 48)
    have xb : Below w.heap.size w (w.alloc (.cells #[.int .i64 (up x.s), .bool x.k, .int .i64 x.n, .int .i64 x.lo, .int .i64 x.hi, .int .i64 (up x.p)] 48)) := (by repeat (first | exact Below.refl _ _ | (refine Below.drew ?_) | (refine below_drewN ?_ _) | (refine Below.setCell ?_ (by first | omega | (simp; done) | (simp; omega)) _) | (refine Below.alloc ?_ (by first | omega | (simp; done) | (simp; omega)) _) | (refine Below.trans ?_ (Below.mono (by assumption) (by first | omega | (simp; done) | (simp; omega))))))
    go_enter Try.func75, Try.ntmps75
    go_upto_region 1 with fail
    go_name_world W hW
    rw [hW] at x0 xb
    clear hW
    obtain ⟨N, hN⟩ : ∃ N, N = w.heap.size := ⟨_, rfl⟩
    rw [← hN] at x0 xb ⊢
    have HN : Hid (N = w.heap.size) := hN
    clear hN
    have HA := hide (And.intro x0 xb)
    clear x0 xb
    have a0 := HA.out.1.c0
    have a1 := HA.out.1.c1
    have a2 := HA.out.1.c2
    have a3 := HA.out.1.c3
    have a4 := HA.out.1.c4
    have a5 := HA.out.1.c5
    go_wp2_with (first | (go_at_call 124; refine (c1 _).mono ?_; rintro e w1 ⟨rfl, hb1⟩; have HB := hide (And.intro (HA.out.1.keep hb1) (HA.out.2.trans (hb1.mono (Nat.le_of_lt HA.out.1.lt)))); clear HA hb1 a0 a1 a2 a3 a4 a5; have HA := HB; clear HB; have a0 := HA.out.1.c0; have a1 := HA.out.1.c1; have a2 := HA.out.1.c2; have a3 := HA.out.1.c3; have a4 := HA.out.1.c4; have a5 := HA.out.1.c5) | (go_at_call 125; refine (c2 _).mono ?_; rintro e w1 ⟨rfl, hb1⟩; have HB := hide (And.intro (HA.out.1.keep hb1) (HA.out.2.trans (hb1.mono (Nat.le_of_lt HA.out.1.lt)))); clear HA hb1 a0 a1 a2 a3 a4 a5; have HA := HB; clear HB; have a0 := HA.out.1.c0; have a1 := HA.out.1.c1; have a2 := HA.out.1.c2; have a3 := HA.out.1.c3; have a4 := HA.out.1.c4; have a5 := HA.out.1.c5) | (go_at_call 126; refine (c3 _).mono ?_; rintro e w1 ⟨rfl, hb1⟩; have HB := hide (And.intro (HA.out.1.keep hb1) (HA.out.2.trans (hb1.mono (Nat.le_of_lt HA.out.1.lt)))); clear HA hb1 a0 a1 a2 a3 a4 a5; have HA := HB; clear HB; have a0 := HA.out.1.c0; have a1 := HA.out.1.c1; have a2 := HA.out.1.c2; have a3 := HA.out.1.c3; have a4 := HA.out.1.c4; have a5 := HA.out.1.c5) | (go_at_call 127; refine (c4 _).mono ?_; rintro e w1 ⟨rfl, hb1⟩; have HB := hide (And.intro (HA.out.1.keep hb1) (HA.out.2.trans (hb1.mono (Nat.le_of_lt HA.out.1.lt)))); clear HA hb1 a0 a1 a2 a3 a4 a5; have HA := HB; clear HB; have a0 := HA.out.1.c0; have a1 := HA.out.1.c1; have a2 := HA.out.1.c2; have a3 := HA.out.1.c3; have a4 := HA.out.1.c4; have a5 := HA.out.1.c5))
    clear c1 c2 c3 c4
    go_ret
    exact ⟨by rw [HR.out]; rfl, by rw [← HN.out]; exact HA.out.2⟩
  · cases t2
    · have x0 : Br (w.alloc (.cells #[.int .i64 (up x.s), .bool x.k, .int .i64 x.n, .int .i64 x.lo, .int .i64 x.hi, .int .i64 (up x.p)] 48)) (w.heap.size) (up x.s) x.k x.n x.lo x.hi (up x.p) := (Br.new w (up x.s) x.k x.n x.lo x.hi (up x.p) 48)
      have xb : Below w.heap.size w (w.alloc (.cells #[.int .i64 (up x.s), .bool x.k, .int .i64 x.n, .int .i64 x.lo, .int .i64 x.hi, .int .i64 (up x.p)] 48)) := (by repeat (first | exact Below.refl _ _ | (refine Below.drew ?_) | (refine below_drewN ?_ _) | (refine Below.setCell ?_ (by first | omega | (simp; done) | (simp; omega)) _) | (refine Below.alloc ?_ (by first | omega | (simp; done) | (simp; omega)) _) | (refine Below.trans ?_ (Below.mono (by assumption) (by first | omega | (simp; done) | (simp; omega))))))
      go_enter Try.func75, Try.ntmps75
      go_upto_region 1 with fail
      go_name_world W hW
      rw [hW] at x0 xb
      clear hW
      obtain ⟨N, hN⟩ : ∃ N, N = w.heap.size := ⟨_, rfl⟩
      rw [← hN] at x0 xb ⊢
      have HN : Hid (N = w.heap.size) := hN
      clear hN
      have HA := hide (And.intro x0 xb)
      clear x0 xb
      have a0 := HA.out.1.c0
      have a1 := HA.out.1.c1
      have a2 := HA.out.1.c2
      have a3 := HA.out.1.c3
      have a4 := HA.out.1.c4
      have a5 := HA.out.1.c5
      go_wp2_with (first | (go_at_call 124; refine (c1 _).mono ?_; rintro e w1 ⟨rfl, hb1⟩; have HB := hide (And.intro (HA.out.1.keep hb1) (HA.out.2.trans (hb1.mono (Nat.le_of_lt HA.out.1.lt)))); clear HA hb1 a0 a1 a2 a3 a4 a5; have HA := HB; clear HB; have a0 := HA.out.1.c0; have a1 := HA.out.1.c1; have a2 := HA.out.1.c2; have a3 := HA.out.1.c3; have a4 := HA.out.1.c4; have a5 := HA.out.1.c5) | (go_at_call 125; refine (c2 _).mono ?_; rintro e w1 ⟨rfl, hb1⟩; have HB := hide (And.intro (HA.out.1.keep hb1) (HA.out.2.trans (hb1.mono (Nat.le_of_lt HA.out.1.lt)))); clear HA hb1 a0 a1 a2 a3 a4 a5; have HA := HB; clear HB; have a0 := HA.out.1.c0; have a1 := HA.out.1.c1; have a2 := HA.out.1.c2; have a3 := HA.out.1.c3; have a4 := HA.out.1.c4; have a5 := HA.out.1.c5) | (go_at_call 126; refine (c3 _).mono ?_; rintro e w1 ⟨rfl, hb1⟩; have HB := hide (And.intro (HA.out.1.keep hb1) (HA.out.2.trans (hb1.mono (Nat.le_of_lt HA.out.1.lt)))); clear HA hb1 a0 a1 a2 a3 a4 a5; have HA := HB; clear HB; have a0 := HA.out.1.c0; have a1 := HA.out.1.c1; have a2 := HA.out.1.c2; have a3 := HA.out.1.c3; have a4 := HA.out.1.c4; have a5 := HA.out.1.c5) | (go_at_call 127; refine (c4 _).mono ?_; rintro e w1 ⟨rfl, hb1⟩; have HB := hide (And.intro (HA.out.1.keep hb1) (HA.out.2.trans (hb1.mono (Nat.le_of_lt HA.out.1.lt)))); clear HA hb1 a0 a1 a2 a3 a4 a5; have HA := HB; clear HB; have a0 := HA.out.1.c0; have a1 := HA.out.1.c1; have a2 := HA.out.1.c2; have a3 := HA.out.1.c3; have a4 := HA.out.1.c4; have a5 := HA.out.1.c5))
      clear c1 c2 c3 c4
      go_ret
      exact ⟨by rw [HR.out]; rfl, by rw [← HN.out]; exact HA.out.2⟩
    · cases t3
      · have x0 : Br (w.alloc (.cells #[.int .i64 (up x.s), .bool x.k, .int .i64 x.n, .int .i64 x.lo, .int .i64 x.hi, .int .i64 (up x.p)] 48)) (w.heap.size) (up x.s) x.k x.n x.lo x.hi (up x.p) := (Br.new w (up x.s) x.k x.n x.lo x.hi (up x.p) 48)
        have xb : Below w.heap.size w (w.alloc (.cells #[.int .i64 (up x.s), .bool x.k, .int .i64 x.n, .int .i64 x.lo, .int .i64 x.hi, .int .i64 (up x.p)] 48)) := (by repeat (first | exact Below.refl _ _ | (refine Below.drew ?_) | (refine below_drewN ?_ _) | (refine Below.setCell ?_ (by first | omega | (simp; done) | (simp; omega)) _) | (refine Below.alloc ?_ (by first | omega | (simp; done) | (simp; omega)) _) | (refine Below.trans ?_ (Below.mono (by assumption) (by first | omega | (simp; done) | (simp; omega))))))
        go_enter Try.func75, Try.ntmps75
        go_upto_region 1 with fail
        go_name_world W hW
        rw [hW] at x0 xb
        clear hW
        obtain ⟨N, hN⟩ : ∃ N, N = w.heap.size := ⟨_, rfl⟩
        rw [← hN] at x0 xb ⊢
        have HN : Hid (N = w.heap.size) := hN
        clear hN
        have HA := hide (And.intro x0 xb)
        clear x0 xb
        have a0 := HA.out.1.c0
        have a1 := HA.out.1.c1
        have a2 := HA.out.1.c2
        have a3 := HA.out.1.c3
        have a4 := HA.out.1.c4
        have a5 := HA.out.1.c5
        go_wp2_with (first | (go_at_call 124; refine (c1 _).mono ?_; rintro e w1 ⟨rfl, hb1⟩; have HB := hide (And.intro (HA.out.1.keep hb1) (HA.out.2.trans (hb1.mono (Nat.le_of_lt HA.out.1.lt)))); clear HA hb1 a0 a1 a2 a3 a4 a5; have HA := HB; clear HB; have a0 := HA.out.1.c0; have a1 := HA.out.1.c1; have a2 := HA.out.1.c2; have a3 := HA.out.1.c3; have a4 := HA.out.1.c4; have a5 := HA.out.1.c5) | (go_at_call 125; refine (c2 _).mono ?_; rintro e w1 ⟨rfl, hb1⟩; have HB := hide (And.intro (HA.out.1.keep hb1) (HA.out.2.trans (hb1.mono (Nat.le_of_lt HA.out.1.lt)))); clear HA hb1 a0 a1 a2 a3 a4 a5; have HA := HB; clear HB; have a0 := HA.out.1.c0; have a1 := HA.out.1.c1; have a2 := HA.out.1.c2; have a3 := HA.out.1.c3; have a4 := HA.out.1.c4; have a5 := HA.out.1.c5) | (go_at_call 126; refine (c3 _).mono ?_; rintro e w1 ⟨rfl, hb1⟩; have HB := hide (And.intro (HA.out.1.keep hb1) (HA.out.2.trans (hb1.mono (Nat.le_of_lt HA.out.1.lt)))); clear HA hb1 a0 a1 a2 a3 a4 a5; have HA := HB; clear HB; have a0 := HA.out.1.c0; have a1 := HA.out.1.c1; have a2 := HA.out.1.c2; have a3 := HA.out.1.c3; have a4 := HA.out.1.c4; have a5 := HA.out.1.c5) | (go_at_call 127; refine (c4 _).mono ?_; rintro e w1 ⟨rfl, hb1⟩; have HB := hide (And.intro (HA.out.1.keep hb1) (HA.out.2.trans (hb1.mono (Nat.le_of_lt HA.out.1.lt)))); clear HA hb1 a0 a1 a2 a3 a4 a5; have HA := HB; clear HB; have a0 := HA.out.1.c0; have a1 := HA.out.1.c1; have a2 := HA.out.1.c2; have a3 := HA.out.1.c3; have a4 := HA.out.1.c4; have a5 := HA.out.1.c5))
        clear c1 c2 c3 c4
        go_ret
        exact ⟨by rw [HR.out]; rfl, by rw [← HN.out]; exact HA.out.2⟩
      · have x0 : Br (w.alloc (.cells #[.int .i64 (up x.s), .bool x.k, .int .i64 x.n, .int .i64 x.lo, .int .i64 x.hi, .int .i64 (up x.p)] 48)) (w.heap.size) (up x.s) x.k x.n x.lo x.hi (up x.p) := (Br.new w (up x.s) x.k x.n x.lo x.hi (up x.p) 48)
        have xb : Below w.heap.size w (w.alloc (.cells #[.int .i64 (up x.s), .bool x.k, .int .i64 x.n, .int .i64 x.lo, .int .i64 x.hi, .int .i64 (up x.p)] 48)) := (by repeat (first | exact Below.refl _ _ | (refine Below.drew ?_) | (refine below_drewN ?_ _) | (refine Below.setCell ?_ (by first | omega | (simp; done) | (simp; omega)) _) | (refine Below.alloc ?_ (by first | omega | (simp; done) | (simp; omega)) _) | (refine Below.trans ?_ (Below.mono (by assumption) (by first | omega | (simp; done) | (simp; omega))))))
        go_enter Try.func75, Try.ntmps75
        go_upto_region 1 with fail
        go_name_world W hW
        rw [hW] at x0 xb
        clear hW
        obtain ⟨N, hN⟩ : ∃ N, N = w.heap.size := ⟨_, rfl⟩
        rw [← hN] at x0 xb ⊢
        have HN : Hid (N = w.heap.size) := hN
        clear hN
        have HA := hide (And.intro x0 xb)
        clear x0 xb
        have a0 := HA.out.1.c0
        have a1 := HA.out.1.c1
        have a2 := HA.out.1.c2
        have a3 := HA.out.1.c3
        have a4 := HA.out.1.c4
        have a5 := HA.out.1.c5
        go_wp2_with (first | (go_at_call 124; refine (c1 _).mono ?_; rintro e w1 ⟨rfl, hb1⟩; have HB := hide (And.intro (HA.out.1.keep hb1) (HA.out.2.trans (hb1.mono (Nat.le_of_lt HA.out.1.lt)))); clear HA hb1 a0 a1 a2 a3 a4 a5; have HA := HB; clear HB; have a0 := HA.out.1.c0; have a1 := HA.out.1.c1; have a2 := HA.out.1.c2; have a3 := HA.out.1.c3; have a4 := HA.out.1.c4; have a5 := HA.out.1.c5) | (go_at_call 125; refine (c2 _).mono ?_; rintro e w1 ⟨rfl, hb1⟩; have HB := hide (And.intro (HA.out.1.keep hb1) (HA.out.2.trans (hb1.mono (Nat.le_of_lt HA.out.1.lt)))); clear HA hb1 a0 a1 a2 a3 a4 a5; have HA := HB; clear HB; have a0 := HA.out.1.c0; have a1 := HA.out.1.c1; have a2 := HA.out.1.c2; have a3 := HA.out.1.c3; have a4 := HA.out.1.c4; have a5 := HA.out.1.c5) | (go_at_call 126; refine (c3 _).mono ?_; rintro e w1 ⟨rfl, hb1⟩; have HB := hide (And.intro (HA.out.1.keep hb1) (HA.out.2.trans (hb1.mono (Nat.le_of_lt HA.out.1.lt)))); clear HA hb1 a0 a1 a2 a3 a4 a5; have HA := HB; clear HB; have a0 := HA.out.1.c0; have a1 := HA.out.1.c1; have a2 := HA.out.1.c2; have a3 := HA.out.1.c3; have a4 := HA.out.1.c4; have a5 := HA.out.1.c5) | (go_at_call 127; refine (c4 _).mono ?_; rintro e w1 ⟨rfl, hb1⟩; have HB := hide (And.intro (HA.out.1.keep hb1) (HA.out.2.trans (hb1.mono (Nat.le_of_lt HA.out.1.lt)))); clear HA hb1 a0 a1 a2 a3 a4 a5; have HA := HB; clear HB; have a0 := HA.out.1.c0; have a1 := HA.out.1.c1; have a2 := HA.out.1.c2; have a3 := HA.out.1.c3; have a4 := HA.out.1.c4; have a5 := HA.out.1.c5))
        clear c1 c2 c3 c4
        go_ret
        exact ⟨by rw [HR.out]; rfl, by rw [← HN.out]; exact HA.out.2⟩
end Go.Proofs.Ytmhicllhjiglkaa
