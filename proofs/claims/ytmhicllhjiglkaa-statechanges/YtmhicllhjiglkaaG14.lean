import Derived.Test.YtmhicllhjiglkaaG02
import Derived.Deep.RegionHeld3
import Derived.Test.YtmhicllhjiglkaaG00
import Derived.Test.YtmhicllhjiglkaaG12
import Derived.Test.YtmhicllhjiglkaaG13
import Derived.Test.YtmhicllhjiglkaaG10
import Derived.Test.YtmhicllhjiglkaaG09
import Derived.Test.YtmhicllhjiglkaaG11
namespace Go.Proofs.Ytmhicllhjiglkaa
open Go.RowKit
set_option maxRecDepth 100000 in
set_option maxHeartbeats 4000000 in
theorem from_S (a b : Option Addr) (c d : Nat) (r : Bool) (vs : List R) (ss : List (List Int)) (w : World) (hv : RV w a vs) (hs : RR w b ss) (hl1 : vs.length ≤ 100000) (hl2 : ss.length ≤ 100000) (hl3 : ∀ (m : Nat) (l : List Int), ss[m]? = some l → l.length ≤ 100000) :
    Calls Try.prog 42 #[.agg #[.bool r, .slice a vs.length c, .slice b ss.length d]] w fun e w' => ∃ v, e = .returned v ∧ Rn w' w.heap.size v ⟨r, vs, ss⟩ ∧ Below w.heap.size w w' := by
  have HV := hide hv
  have HR := hide hs
  have HL3 := hide hl3
  clear hv hs hl3
  go_enter Try.func42, Try.ntmps42
  go_upto_region 2 with fail
  go_name_world W hW
  obtain ⟨q2, h2⟩ : ∃ z9, z9 = w.heap.size + 1 + 1 := ⟨_, rfl⟩
  rw [← h2]
  obtain ⟨q1, h1⟩ : ∃ z9, z9 = w.heap.size + 1 := ⟨_, rfl⟩
  rw [← h1]
  obtain ⟨q0, h0⟩ : ∃ z9, z9 = w.heap.size := ⟨_, rfl⟩
  rw [← h0]
  have FQ : Hid (q0 < q2 ∧ q1 < q2 ∧ w.heap.size ≤ q2 ∧ w.heap.size ≤ q1) := by unfold Hid; omega
  have H1 : Hid (Bs W q0 r (.slice a vs.length c) (.slice b ss.length d) ∧ Bs W q1 false (.slice none 0 0) (.slice none 0 0) ∧ Fs W q1 ∧ Lo W (q2 + 1) q2 48 ⟨r, [], []⟩ (.slice none 0 0) (.slice none 0 0) [] ∧ Below w.heap.size w W) := by
    unfold Hid
    rw [h2, h1, h0]
    obtain ⟨B0, -, B1, F1, B2, F2, u⟩ := boxes3 w _ _ _ _ _ _ _ _ _ _ _ _ W hW
    exact ⟨B0, B1, F1, Lo.start _ B2 F2 (Nat.lt_succ_self _), u⟩
  clear hW h2 h1 h0
  have HL1 : Hid (vs.length ≤ 100000 ∧ ss.length ≤ 100000) := ⟨hl1, hl2⟩
  go_wp2_with fail
  go_loopw [4] (fun s4 wr => ∃ (k : Nat) (va : Value), s4 = .int .i64 k ∧ k ≤ vs.length ∧ Hid (Bs wr q0 r (.slice a vs.length c) (.slice b ss.length d) ∧ Bs wr q1 false (.slice none 0 0) (.slice none 0 0) ∧ Fs wr q1 ∧ Lo wr (q2 + 1) q2 48 ⟨r, vs.take k, []⟩ va (.slice none 0 0) [] ∧ Below w.heap.size w wr)) (fun s4 _ => vs.length - (intOf s4).toNat)
  case atStart => exact ⟨0, _, rfl, Nat.zero_le _, H1.out⟩
  case round =>
    obtain ⟨k, va, rfl, hk, h4⟩ := hrel
    clear H1
    by_cases hk2 : k = vs.length
    · subst hk2
      have h5 : Hid (Bs wr q0 r (.slice a vs.length c) (.slice b ss.length d) ∧ Bs wr q1 false (.slice none 0 0) (.slice none 0 0) ∧ Fs wr q1 ∧ Lo wr (q2 + 1) q2 48 ⟨r, vs, []⟩ va (.slice none 0 0) [] ∧ Below w.heap.size w wr) := by
        have t := h4.out
        rw [List.take_of_length_le (Nat.le_refl _)] at t
        exact t
      have e1 := h5.out.1.c1
      clear h4
      go_upto_region 6 with fail
      clear e1
      go_wp2_with fail
      go_loopw [5] (fun s5 wr => ∃ (k : Nat) (sa : Value) (es : List Value), s5 = .int .i64 k ∧ k ≤ ss.length ∧ Hid (Bs wr q0 r (.slice a vs.length c) (.slice b ss.length d) ∧ Bs wr q1 false (.slice none 0 0) (.slice none 0 0) ∧ Fs wr q1 ∧ Lo wr (q2 + 1) q2 48 ⟨r, vs, ss.take k⟩ va sa es ∧ Below w.heap.size w wr)) (fun s5 _ => ss.length - (intOf s5).toNat)
      case atStart => exact ⟨0, _, _, rfl, Nat.zero_le _, h5.out⟩
      case round =>
        obtain ⟨k, sa, es, rfl, hk, h4⟩ := hrel
        clear h5
        by_cases hk2 : k = ss.length
        · subst hk2
          have h6 := h4.out
          rw [List.take_of_length_le (Nat.le_refl _)] at h6
          have h5 := hide h6
          have e1 := h5.out.1.c2
          clear h4 h6
          go_upto_region 10 with fail
          clear e1
          obtain ⟨a7, c7, rfl, -, -⟩ := h5.out.2.2.2.1.ov.slice
          obtain ⟨a8, c8, rfl, -, -⟩ := h5.out.2.2.2.1.os.slice
          have e0 := h5.out.2.2.2.1.bx.c0
          have e1 := h5.out.2.2.2.1.bx.c1
          have e2 := h5.out.2.2.2.1.bx.c2
          have g0 := h5.out.2.1.c0
          have g1 := h5.out.2.1.c1
          have g2 := h5.out.2.1.c2
          have f0 := h5.out.2.2.1.f0
          have f1 := h5.out.2.2.1.f1
          have f2 := h5.out.2.2.1.f2
          have G1 := hide (h5.out.2.2.2.1.fin h5.out.2.1 (Nat.lt_succ_of_lt FQ.out.2.1) (Nat.ne_of_lt FQ.out.2.1) h5.out.2.2.2.2 FQ.out.2.2.2)
          clear h5
          go_wp2_with fail
          have y0 := G1.out.1.c0
          have y1 := G1.out.1.c1
          have y2 := G1.out.1.c2
          clear e0 e1 e2 g0 g1 g2 f0 f1 f2
          exact bodyPost_ret (by simp [results, Try.results42, go_sem, y0, y1, y2]; try rfl) rfl ⟨_, rfl, G1.out.2.1, G1.out.2.2⟩
        · have hlt : k < ss.length := by omega
          have hlt' : (k : Int) < ss.length := by omega
          obtain ⟨b1, o1, l, ai, ci, hX, rfl, hc1, hc2, hc3, hc4⟩ := HR.out.at hlt
          have HX := hide hX
          have HL := hide (show l.length ≤ 1000000 by have := HL3.out k l hX; omega)
          have HN : Hid (ai = none → ci = 0 ∧ l = []) := fun e => ⟨hc4 e, List.eq_nil_of_length_eq_zero (by have := hc4 e; omega)⟩
          have H2 := hide (And.intro hc1 hc2)
          have e1 := h4.out.1.c2
          clear hX hc1 hc2 hc3 hc4 
          go_upto_region 9 with fail
          clear e1
          go_name_world W hW
          rw [hW] at h4
          clear hW
          have KW : Hid (Bs W q0 r (.slice a vs.length c) (.slice (some ⟨b1, o1, none⟩) ss.length d) ∧ Bs W q1 false (.slice none 0 0) (.slice none 0 0) ∧ Fs W q1) := ⟨h4.out.1, h4.out.2.1, h4.out.2.2.1⟩
          have LW := hide h4.out.2.2.2.1
          have BW := hide h4.out.2.2.2.2
          clear h4
          have HI : Hid (∀ w', Below q2 W w' → Ri w' ai l) := fun w' h => H2.out.2.keep' (BW.out.trans (h.mono FQ.out.2.2.1))
          have HS : Hid (∀ w', Below q2 W w' → (w'.cell? ⟨q0, 2, none⟩ = some (.slice (some ⟨b1, o1, none⟩) ss.length d) ∧ w'.cell? ⟨b1, o1 + k, none⟩ = some (.slice ai l.length ci))) := fun w' h => ⟨(h.cell (p := ⟨q0, 2, none⟩) FQ.out.1).trans KW.out.1.c2, ((BW.out.trans (h.mono FQ.out.2.2.1)).cell (p := ⟨b1, o1 + k, none⟩) (World.block_lt_of_cell? w _ H2.out.1)).trans H2.out.1⟩
          refine wp_region_held_drew (S := fun w' => w'.cell? ⟨q0, 2, none⟩ = some (.slice (some ⟨b1, o1, none⟩) ss.length d) ∧ w'.cell? ⟨b1, o1 + k, none⟩ = some (.slice ai l.length ci)) (by kernel_rfl) (HS.out _ (Below.refl _ _).drew) (fun hH0 => ?_)
          obtain ⟨w0, hw0⟩ : ∃ w0, w0 = W.drew := ⟨_, rfl⟩
          (try rw [← hw0] at hH0)
          rw [← hw0]
          have L0 : Hid (Lo w0 (q2 + 1) q2 48 ⟨r, vs, ss.take k⟩ va sa es) := hw0 ▸ hide (LW.out.of (Below.refl _ _).drew)
          have b0 : Hid (Below q2 W w0) := hw0 ▸ hide (Below.refl _ _).drew
          clear hw0
          refine wpAnyH_take (i := 0) (oi := ({ dst := some 34, op := Op.fieldAddr 25 (Operand.tmp 3) 2, type := 0, pos := _, after := _, guard := _ } : Oper)) (v := ?_) rfl (by kernel_rfl) (by kernel_rfl) (by kernel_rfl) (fun _ _ _ h => h) (Or.inl ⟨by rfl, ?_⟩) (by assumption) ?_
          rotate_left
          · (intro wz hSw; (try dsimp only at hSw); go_simp; try with_reducible rfl)
          simp only [Act.put, List.setIfInBounds_toArray, List.set_cons_zero, List.set_cons_succ]
          refine wpAnyH_take (i := 3) (oi := ({ dst := some 37, op := Op.fieldAddr 29 (Operand.tmp 1) 2, type := 0, pos := _, after := _, guard := _ } : Oper)) (v := ?_) rfl (by kernel_rfl) (by kernel_rfl) (by kernel_rfl) (fun _ _ _ h => h) (Or.inl ⟨by rfl, ?_⟩) (by assumption) ?_
          rotate_left
          · (intro wz hSw; (try dsimp only at hSw); go_simp; try with_reducible rfl)
          simp only [Act.put, List.setIfInBounds_toArray, List.set_cons_zero, List.set_cons_succ]
          refine wpAnyH_take (i := 4) (oi := ({ dst := some 38, op := Op.load 23 (Operand.tmp 37), type := 23, pos := _, after := _, guard := _ } : Oper)) (v := ?_) rfl (by kernel_rfl) (by kernel_rfl) (by kernel_rfl) (fun _ _ _ h => h) (Or.inl ⟨by rfl, ?_⟩) (by assumption) ?_
          rotate_left
          · (intro wz hSw; (try dsimp only at hSw); go_simp; try with_reducible rfl)
          simp only [Act.put, List.setIfInBounds_toArray, List.set_cons_zero, List.set_cons_succ]
          refine wpAnyH_take (i := 5) (oi := ({ dst := some 39, op := Op.move (Operand.tmp 5), type := 3, pos := _, after := _, guard := _ } : Oper)) (v := ?_) rfl (by kernel_rfl) (by kernel_rfl) (by kernel_rfl) (fun _ _ _ h => h) (Or.inl ⟨by rfl, ?_⟩) (by assumption) ?_
          rotate_left
          · (intro wz hSw; (try dsimp only at hSw); go_simp; try with_reducible rfl)
          simp only [Act.put, List.setIfInBounds_toArray, List.set_cons_zero, List.set_cons_succ]
          refine wpAnyH_take (i := 6) (oi := ({ dst := some 40, op := Op.indexAddr 23 (Operand.tmp 38) (Operand.tmp 39), type := 0, pos := _, after := _, guard := _ } : Oper)) (v := ?_) rfl (by kernel_rfl) (by kernel_rfl) (by kernel_rfl) (fun _ _ _ h => h) (Or.inl ⟨by rfl, ?_⟩) (by assumption) ?_
          rotate_left
          · (intro wz hSw; (try dsimp only at hSw); go_simp; try with_reducible rfl)
          simp only [Act.put, List.setIfInBounds_toArray, List.set_cons_zero, List.set_cons_succ]
          refine wpAnyH_take (i := 7) (oi := ({ dst := some 41, op := Op.load 38 (Operand.tmp 40), type := 38, pos := _, after := _, guard := _ } : Oper)) (v := ?_) rfl (by kernel_rfl) (by kernel_rfl) (by kernel_rfl) (fun _ _ _ h => h) (Or.inl ⟨by rfl, ?_⟩) (by assumption) ?_
          rotate_left
          · (intro wz hSw; (try dsimp only at hSw); go_simp; try with_reducible rfl)
          simp only [Act.put, List.setIfInBounds_toArray, List.set_cons_zero, List.set_cons_succ]
          refine wpAnyH_ready (rs := [1, 2]) (by kernel_rfl) (by simp) ?_
          refine AllReadyH.cons (o := ({ dst := some 35, op := Op.load 23 (Operand.tmp 34), type := 23, pos := _, after := _, guard := _ } : Oper)) rfl (fun K hK => ?_) (AllReadyH.cons (o := ({ dst := some 36, op := Op.buildSlice 38 0 #[], type := 38, pos := _, after := _, guard := _ } : Oper)) rfl (fun K hK => ?_) AllReadyH.nil)
          · have zc := L0.out.bx.c2
            go_simp
            refine hK.out _ _ hH0 (fun _ => ?_)
            clear hK K zc
            refine wpAnyH_ready (rs := [2]) (by kernel_rfl) (by simp) ?_
            refine AllReadyH.cons (o := ({ dst := some 36, op := Op.buildSlice 38 0 #[], type := 38, pos := _, after := _, guard := _ } : Oper)) rfl (fun K hK => ?_) AllReadyH.nil
            · go_simp
              have hb1 : Below w0.heap.size w0 (w0.alloc (.cells #[] 3)) := (Below.refl _ _).alloc (Nat.le_refl _) _
              have L1 := hide (L0.out.of hb1)
              have b1 := hide (b0.out.trans (hb1.mono (Nat.le_of_lt L0.out.bx.lt)))
              have E1 := hide (St.lit0 w0)
              refine hK.out _ _ (HS.out _ b1.out) (fun hH1 => ?_)
              clear hK K hb1
              obtain ⟨w1, hw1⟩ : ∃ z9, z9 = (w0.alloc (.cells #[] 3)) := ⟨_, rfl⟩
              rw [← hw1] at hH1 L1 b1 E1 ⊢
              clear hw1
              obtain ⟨ne, hne⟩ : ∃ z9, z9 = w0.heap.size := ⟨_, rfl⟩
              rw [← hne] at E1 ⊢
              replace hne := hide hne
              refine wpAnyH_ready (rs := [8]) (by kernel_rfl) (by simp) ?_
              refine AllReadyH.cons (o := ({ dst := some 42, op := Op.call { callee := Callee.builtin Builtin.append, args := #[Operand.tmp 36, Operand.tmp 41], argTypes := #[38, 38] }, type := 38, pos := _, after := _, guard := _ } : Oper)) rfl (fun K hK => ?_) AllReadyH.nil
              · refine wp_appZ w0 w1 (.tmp 36) (.tmp 41) rfl _ E1.out rfl ai ci l rfl (HI.out _ b1.out) HN.out HL.out ?_
                intro a2 c2 w2 hO2
                have L2 := hide (L0.out.of hO2.bel)
                have b2 := hide (b0.out.trans (hO2.bel.mono (Nat.le_of_lt L0.out.bx.lt)))
                have I2 := hide (hO2.owi (Nat.succ_le_of_lt L0.out.bx.lt))
                refine hK.out _ _ (HS.out _ b2.out) (fun hH2 => ?_)
                clear hK K hO2 E1
                refine wpAnyH_ready (rs := [9]) (by kernel_rfl) (by simp) ?_
                refine AllReadyH.cons (o := ({ dst := some 43, op := Op.buildSlice 23 1 #[(0, Operand.tmp 42)], type := 23, pos := _, after := _, guard := _ } : Oper)) rfl (fun K hK => ?_) AllReadyH.nil
                · go_simp
                  have hb3 : Below w2.heap.size w2 (w2.alloc (.cells #[(.slice a2 l.length c2)] 38)) := (Below.refl _ _).alloc (Nat.le_refl _) _
                  have L3 := hide (L2.out.of hb3)
                  have b3 := hide (b2.out.trans (hb3.mono (Nat.le_of_lt L2.out.bx.lt)))
                  have I3 := hide (I2.out.keep hb3)
                  have Y3 := hide (C1.new w2 (.slice a2 l.length c2) 38)
                  refine hK.out _ _ (HS.out _ b3.out) (fun hH3 => ?_)
                  clear hK K hb3
                  obtain ⟨w3, hw3⟩ : ∃ z9, z9 = (w2.alloc (.cells #[(.slice a2 l.length c2)] 38)) := ⟨_, rfl⟩
                  rw [← hw3] at hH3 L3 b3 Y3 I3 ⊢
                  clear hw3
                  generalize w2.heap.size = nc at *
                  refine wpAnyH_ready (rs := [10]) (by kernel_rfl) (by simp) ?_
                  refine AllReadyH.cons (o := ({ dst := some 44, op := Op.call { callee := Callee.builtin Builtin.append, args := #[Operand.tmp 35, Operand.tmp 43], argTypes := #[23, 23] }, type := 23, pos := _, after := _, guard := _ } : Oper)) rfl (fun K hK => ?_) AllReadyH.nil
                  · refine wp_appR' w3 (q2 + 1) (.tmp 35) (.tmp 43) rfl _ es (.slice a2 l.length c2) nc rfl L3.out.os Y3.out.c rfl rfl ?_ (Nat.succ_le_of_lt L3.out.bx.lt) ?_
                    · (have := L3.out.inn.1; dsimp only at this; rw [List.length_take] at this; omega)
                    intro a4 c4 w4 hO4 hg4
                    have b4 := hide (L3.out.belR b3.out hg4)
                    refine hK.out _ _ (HS.out _ b4.out) (fun hH4 => ?_)
                    clear hK K
                    replace hO4 := hide hO4
                    replace hg4 := hide hg4
                    refine wpAnyH_take (i := 11) (oi := ({ dst := some 45, op := Op.fieldAddr 25 (Operand.tmp 3) 2, type := 0, pos := _, after := _, guard := _ } : Oper)) (v := ?_) rfl (by kernel_rfl) (by kernel_rfl) (by kernel_rfl) (fun _ _ _ h => h) (Or.inl ⟨by rfl, ?_⟩) (by assumption) ?_
                    rotate_left
                    · (intro wz hSw; (try dsimp only at hSw); go_simp; try with_reducible rfl)
                    simp only [Act.put, List.setIfInBounds_toArray, List.set_cons_zero, List.set_cons_succ]
                    refine wpAnyH_ready (rs := [12]) (by kernel_rfl) (by simp) ?_
                    refine AllReadyH.cons (o := ({ dst := none, op := Op.store 23 (Operand.tmp 45) (Operand.tmp 44), type := 0, pos := _, after := _, guard := _ } : Oper)) rfl (fun K hK => ?_) AllReadyH.nil
                    · have zb := (L3.out.boxR hg4.out).1
                      have zf := (L3.out.boxR hg4.out).2
                      have z0 := zb.c0
                      have z1 := zb.c1
                      have z2 := zb.c2
                      have y0 := zf.f0
                      have y1 := zf.f1
                      have y2 := zf.f2
                      clear zb zf
                      go_simp
                      have L5 := hide (L3.out.appR (by decide) I3.out hO4.out hg4.out)
                      have b5 := hide (b4.out.setCell (p := ⟨q2, 2, none⟩) (Nat.le_refl _) (.slice a4 (es.length + 1) c4))
                      refine hK.out _ _ (HS.out _ b5.out) (fun hH5 => ?_)
                      clear hK K z0 z1 z2 y0 y1 y2
                      obtain ⟨w5, hw5⟩ : ∃ z9, z9 = w4.setCell ⟨q2, 2, none⟩ (.slice a4 (es.length + 1) c4) := ⟨_, rfl⟩
                      rw [← hw5] at hH5 L5 b5  ⊢
                      clear hw5
                      refine wpAnyH_done (by kernel_rfl) ?_ _
                      clear HS
                      go_wp2_with fail
                      exact ⟨⟨k + 1, _, _, by simp, by omega, ⟨KW.out.1.of (b5.out.block q0 FQ.out.1), KW.out.2.1.of (b5.out.block q1 FQ.out.2.1), KW.out.2.2.of (b5.out.block q1 FQ.out.2.1), by rw [take_more HX.out]; exact L5.out, BW.out.trans (b5.out.mono FQ.out.2.2.1)⟩⟩, by simp [intOf]; omega⟩
          · go_simp
            have hb1 : Below w0.heap.size w0 (w0.alloc (.cells #[] 3)) := (Below.refl _ _).alloc (Nat.le_refl _) _
            have L1 := hide (L0.out.of hb1)
            have b1 := hide (b0.out.trans (hb1.mono (Nat.le_of_lt L0.out.bx.lt)))
            have E1 := hide (St.lit0 w0)
            refine hK.out _ _ (HS.out _ b1.out) (fun hH1 => ?_)
            clear hK K hb1
            obtain ⟨w1, hw1⟩ : ∃ z9, z9 = (w0.alloc (.cells #[] 3)) := ⟨_, rfl⟩
            rw [← hw1] at hH1 L1 b1 E1 ⊢
            clear hw1
            obtain ⟨ne, hne⟩ : ∃ z9, z9 = w0.heap.size := ⟨_, rfl⟩
            rw [← hne] at E1 ⊢
            replace hne := hide hne
            refine wpAnyH_ready (rs := [1, 8]) (by kernel_rfl) (by simp) ?_
            refine AllReadyH.cons (o := ({ dst := some 35, op := Op.load 23 (Operand.tmp 34), type := 23, pos := _, after := _, guard := _ } : Oper)) rfl (fun K hK => ?_) (AllReadyH.cons (o := ({ dst := some 42, op := Op.call { callee := Callee.builtin Builtin.append, args := #[Operand.tmp 36, Operand.tmp 41], argTypes := #[38, 38] }, type := 38, pos := _, after := _, guard := _ } : Oper)) rfl (fun K hK => ?_) AllReadyH.nil)
            · have zc := L1.out.bx.c2
              go_simp
              refine hK.out _ _ hH1 (fun _ => ?_)
              clear hK K zc
              refine wpAnyH_ready (rs := [8]) (by kernel_rfl) (by simp) ?_
              refine AllReadyH.cons (o := ({ dst := some 42, op := Op.call { callee := Callee.builtin Builtin.append, args := #[Operand.tmp 36, Operand.tmp 41], argTypes := #[38, 38] }, type := 38, pos := _, after := _, guard := _ } : Oper)) rfl (fun K hK => ?_) AllReadyH.nil
              · refine wp_appZ w0 w1 (.tmp 36) (.tmp 41) rfl _ E1.out rfl ai ci l rfl (HI.out _ b1.out) HN.out HL.out ?_
                intro a2 c2 w2 hO2
                have L2 := hide (L0.out.of hO2.bel)
                have b2 := hide (b0.out.trans (hO2.bel.mono (Nat.le_of_lt L0.out.bx.lt)))
                have I2 := hide (hO2.owi (Nat.succ_le_of_lt L0.out.bx.lt))
                refine hK.out _ _ (HS.out _ b2.out) (fun hH2 => ?_)
                clear hK K hO2 E1
                refine wpAnyH_ready (rs := [9]) (by kernel_rfl) (by simp) ?_
                refine AllReadyH.cons (o := ({ dst := some 43, op := Op.buildSlice 23 1 #[(0, Operand.tmp 42)], type := 23, pos := _, after := _, guard := _ } : Oper)) rfl (fun K hK => ?_) AllReadyH.nil
                · go_simp
                  have hb3 : Below w2.heap.size w2 (w2.alloc (.cells #[(.slice a2 l.length c2)] 38)) := (Below.refl _ _).alloc (Nat.le_refl _) _
                  have L3 := hide (L2.out.of hb3)
                  have b3 := hide (b2.out.trans (hb3.mono (Nat.le_of_lt L2.out.bx.lt)))
                  have I3 := hide (I2.out.keep hb3)
                  have Y3 := hide (C1.new w2 (.slice a2 l.length c2) 38)
                  refine hK.out _ _ (HS.out _ b3.out) (fun hH3 => ?_)
                  clear hK K hb3
                  obtain ⟨w3, hw3⟩ : ∃ z9, z9 = (w2.alloc (.cells #[(.slice a2 l.length c2)] 38)) := ⟨_, rfl⟩
                  rw [← hw3] at hH3 L3 b3 Y3 I3 ⊢
                  clear hw3
                  generalize w2.heap.size = nc at *
                  refine wpAnyH_ready (rs := [10]) (by kernel_rfl) (by simp) ?_
                  refine AllReadyH.cons (o := ({ dst := some 44, op := Op.call { callee := Callee.builtin Builtin.append, args := #[Operand.tmp 35, Operand.tmp 43], argTypes := #[23, 23] }, type := 23, pos := _, after := _, guard := _ } : Oper)) rfl (fun K hK => ?_) AllReadyH.nil
                  · refine wp_appR' w3 (q2 + 1) (.tmp 35) (.tmp 43) rfl _ es (.slice a2 l.length c2) nc rfl L3.out.os Y3.out.c rfl rfl ?_ (Nat.succ_le_of_lt L3.out.bx.lt) ?_
                    · (have := L3.out.inn.1; dsimp only at this; rw [List.length_take] at this; omega)
                    intro a4 c4 w4 hO4 hg4
                    have b4 := hide (L3.out.belR b3.out hg4)
                    refine hK.out _ _ (HS.out _ b4.out) (fun hH4 => ?_)
                    clear hK K
                    replace hO4 := hide hO4
                    replace hg4 := hide hg4
                    refine wpAnyH_take (i := 11) (oi := ({ dst := some 45, op := Op.fieldAddr 25 (Operand.tmp 3) 2, type := 0, pos := _, after := _, guard := _ } : Oper)) (v := ?_) rfl (by kernel_rfl) (by kernel_rfl) (by kernel_rfl) (fun _ _ _ h => h) (Or.inl ⟨by rfl, ?_⟩) (by assumption) ?_
                    rotate_left
                    · (intro wz hSw; (try dsimp only at hSw); go_simp; try with_reducible rfl)
                    simp only [Act.put, List.setIfInBounds_toArray, List.set_cons_zero, List.set_cons_succ]
                    refine wpAnyH_ready (rs := [12]) (by kernel_rfl) (by simp) ?_
                    refine AllReadyH.cons (o := ({ dst := none, op := Op.store 23 (Operand.tmp 45) (Operand.tmp 44), type := 0, pos := _, after := _, guard := _ } : Oper)) rfl (fun K hK => ?_) AllReadyH.nil
                    · have zb := (L3.out.boxR hg4.out).1
                      have zf := (L3.out.boxR hg4.out).2
                      have z0 := zb.c0
                      have z1 := zb.c1
                      have z2 := zb.c2
                      have y0 := zf.f0
                      have y1 := zf.f1
                      have y2 := zf.f2
                      clear zb zf
                      go_simp
                      have L5 := hide (L3.out.appR (by decide) I3.out hO4.out hg4.out)
                      have b5 := hide (b4.out.setCell (p := ⟨q2, 2, none⟩) (Nat.le_refl _) (.slice a4 (es.length + 1) c4))
                      refine hK.out _ _ (HS.out _ b5.out) (fun hH5 => ?_)
                      clear hK K z0 z1 z2 y0 y1 y2
                      obtain ⟨w5, hw5⟩ : ∃ z9, z9 = w4.setCell ⟨q2, 2, none⟩ (.slice a4 (es.length + 1) c4) := ⟨_, rfl⟩
                      rw [← hw5] at hH5 L5 b5  ⊢
                      clear hw5
                      refine wpAnyH_done (by kernel_rfl) ?_ _
                      clear HS
                      go_wp2_with fail
                      exact ⟨⟨k + 1, _, _, by simp, by omega, ⟨KW.out.1.of (b5.out.block q0 FQ.out.1), KW.out.2.1.of (b5.out.block q1 FQ.out.2.1), KW.out.2.2.of (b5.out.block q1 FQ.out.2.1), by rw [take_more HX.out]; exact L5.out, BW.out.trans (b5.out.mono FQ.out.2.2.1)⟩⟩, by simp [intOf]; omega⟩
            · refine wp_appZ w0 w1 (.tmp 36) (.tmp 41) rfl _ E1.out rfl ai ci l rfl (HI.out _ b1.out) HN.out HL.out ?_
              intro a2 c2 w2 hO2
              have L2 := hide (L0.out.of hO2.bel)
              have b2 := hide (b0.out.trans (hO2.bel.mono (Nat.le_of_lt L0.out.bx.lt)))
              have I2 := hide (hO2.owi (Nat.succ_le_of_lt L0.out.bx.lt))
              refine hK.out _ _ (HS.out _ b2.out) (fun hH2 => ?_)
              clear hK K hO2 E1
              refine wpAnyH_ready (rs := [1, 9]) (by kernel_rfl) (by simp) ?_
              refine AllReadyH.cons (o := ({ dst := some 35, op := Op.load 23 (Operand.tmp 34), type := 23, pos := _, after := _, guard := _ } : Oper)) rfl (fun K hK => ?_) (AllReadyH.cons (o := ({ dst := some 43, op := Op.buildSlice 23 1 #[(0, Operand.tmp 42)], type := 23, pos := _, after := _, guard := _ } : Oper)) rfl (fun K hK => ?_) AllReadyH.nil)
              · have zc := L2.out.bx.c2
                go_simp
                refine hK.out _ _ hH2 (fun _ => ?_)
                clear hK K zc
                refine wpAnyH_ready (rs := [9]) (by kernel_rfl) (by simp) ?_
                refine AllReadyH.cons (o := ({ dst := some 43, op := Op.buildSlice 23 1 #[(0, Operand.tmp 42)], type := 23, pos := _, after := _, guard := _ } : Oper)) rfl (fun K hK => ?_) AllReadyH.nil
                · go_simp
                  have hb3 : Below w2.heap.size w2 (w2.alloc (.cells #[(.slice a2 l.length c2)] 38)) := (Below.refl _ _).alloc (Nat.le_refl _) _
                  have L3 := hide (L2.out.of hb3)
                  have b3 := hide (b2.out.trans (hb3.mono (Nat.le_of_lt L2.out.bx.lt)))
                  have I3 := hide (I2.out.keep hb3)
                  have Y3 := hide (C1.new w2 (.slice a2 l.length c2) 38)
                  refine hK.out _ _ (HS.out _ b3.out) (fun hH3 => ?_)
                  clear hK K hb3
                  obtain ⟨w3, hw3⟩ : ∃ z9, z9 = (w2.alloc (.cells #[(.slice a2 l.length c2)] 38)) := ⟨_, rfl⟩
                  rw [← hw3] at hH3 L3 b3 Y3 I3 ⊢
                  clear hw3
                  generalize w2.heap.size = nc at *
                  refine wpAnyH_ready (rs := [10]) (by kernel_rfl) (by simp) ?_
                  refine AllReadyH.cons (o := ({ dst := some 44, op := Op.call { callee := Callee.builtin Builtin.append, args := #[Operand.tmp 35, Operand.tmp 43], argTypes := #[23, 23] }, type := 23, pos := _, after := _, guard := _ } : Oper)) rfl (fun K hK => ?_) AllReadyH.nil
                  · refine wp_appR' w3 (q2 + 1) (.tmp 35) (.tmp 43) rfl _ es (.slice a2 l.length c2) nc rfl L3.out.os Y3.out.c rfl rfl ?_ (Nat.succ_le_of_lt L3.out.bx.lt) ?_
                    · (have := L3.out.inn.1; dsimp only at this; rw [List.length_take] at this; omega)
                    intro a4 c4 w4 hO4 hg4
                    have b4 := hide (L3.out.belR b3.out hg4)
                    refine hK.out _ _ (HS.out _ b4.out) (fun hH4 => ?_)
                    clear hK K
                    replace hO4 := hide hO4
                    replace hg4 := hide hg4
                    refine wpAnyH_take (i := 11) (oi := ({ dst := some 45, op := Op.fieldAddr 25 (Operand.tmp 3) 2, type := 0, pos := _, after := _, guard := _ } : Oper)) (v := ?_) rfl (by kernel_rfl) (by kernel_rfl) (by kernel_rfl) (fun _ _ _ h => h) (Or.inl ⟨by rfl, ?_⟩) (by assumption) ?_
                    rotate_left
                    · (intro wz hSw; (try dsimp only at hSw); go_simp; try with_reducible rfl)
                    simp only [Act.put, List.setIfInBounds_toArray, List.set_cons_zero, List.set_cons_succ]
                    refine wpAnyH_ready (rs := [12]) (by kernel_rfl) (by simp) ?_
                    refine AllReadyH.cons (o := ({ dst := none, op := Op.store 23 (Operand.tmp 45) (Operand.tmp 44), type := 0, pos := _, after := _, guard := _ } : Oper)) rfl (fun K hK => ?_) AllReadyH.nil
                    · have zb := (L3.out.boxR hg4.out).1
                      have zf := (L3.out.boxR hg4.out).2
                      have z0 := zb.c0
                      have z1 := zb.c1
                      have z2 := zb.c2
                      have y0 := zf.f0
                      have y1 := zf.f1
                      have y2 := zf.f2
                      clear zb zf
                      go_simp
                      have L5 := hide (L3.out.appR (by decide) I3.out hO4.out hg4.out)
                      have b5 := hide (b4.out.setCell (p := ⟨q2, 2, none⟩) (Nat.le_refl _) (.slice a4 (es.length + 1) c4))
                      refine hK.out _ _ (HS.out _ b5.out) (fun hH5 => ?_)
                      clear hK K z0 z1 z2 y0 y1 y2
                      obtain ⟨w5, hw5⟩ : ∃ z9, z9 = w4.setCell ⟨q2, 2, none⟩ (.slice a4 (es.length + 1) c4) := ⟨_, rfl⟩
                      rw [← hw5] at hH5 L5 b5  ⊢
                      clear hw5
                      refine wpAnyH_done (by kernel_rfl) ?_ _
                      clear HS
                      go_wp2_with fail
                      exact ⟨⟨k + 1, _, _, by simp, by omega, ⟨KW.out.1.of (b5.out.block q0 FQ.out.1), KW.out.2.1.of (b5.out.block q1 FQ.out.2.1), KW.out.2.2.of (b5.out.block q1 FQ.out.2.1), by rw [take_more HX.out]; exact L5.out, BW.out.trans (b5.out.mono FQ.out.2.2.1)⟩⟩, by simp [intOf]; omega⟩
              · go_simp
                have hb3 : Below w2.heap.size w2 (w2.alloc (.cells #[(.slice a2 l.length c2)] 38)) := (Below.refl _ _).alloc (Nat.le_refl _) _
                have L3 := hide (L2.out.of hb3)
                have b3 := hide (b2.out.trans (hb3.mono (Nat.le_of_lt L2.out.bx.lt)))
                have I3 := hide (I2.out.keep hb3)
                have Y3 := hide (C1.new w2 (.slice a2 l.length c2) 38)
                refine hK.out _ _ (HS.out _ b3.out) (fun hH3 => ?_)
                clear hK K hb3
                obtain ⟨w3, hw3⟩ : ∃ z9, z9 = (w2.alloc (.cells #[(.slice a2 l.length c2)] 38)) := ⟨_, rfl⟩
                rw [← hw3] at hH3 L3 b3 Y3 I3 ⊢
                clear hw3
                generalize w2.heap.size = nc at *
                refine wpAnyH_ready (rs := [1]) (by kernel_rfl) (by simp) ?_
                refine AllReadyH.cons (o := ({ dst := some 35, op := Op.load 23 (Operand.tmp 34), type := 23, pos := _, after := _, guard := _ } : Oper)) rfl (fun K hK => ?_) AllReadyH.nil
                · have zc := L3.out.bx.c2
                  go_simp
                  refine hK.out _ _ hH3 (fun _ => ?_)
                  clear hK K zc
                  refine wpAnyH_ready (rs := [10]) (by kernel_rfl) (by simp) ?_
                  refine AllReadyH.cons (o := ({ dst := some 44, op := Op.call { callee := Callee.builtin Builtin.append, args := #[Operand.tmp 35, Operand.tmp 43], argTypes := #[23, 23] }, type := 23, pos := _, after := _, guard := _ } : Oper)) rfl (fun K hK => ?_) AllReadyH.nil
                  · refine wp_appR' w3 (q2 + 1) (.tmp 35) (.tmp 43) rfl _ es (.slice a2 l.length c2) nc rfl L3.out.os Y3.out.c rfl rfl ?_ (Nat.succ_le_of_lt L3.out.bx.lt) ?_
                    · (have := L3.out.inn.1; dsimp only at this; rw [List.length_take] at this; omega)
                    intro a4 c4 w4 hO4 hg4
                    have b4 := hide (L3.out.belR b3.out hg4)
                    refine hK.out _ _ (HS.out _ b4.out) (fun hH4 => ?_)
                    clear hK K
                    replace hO4 := hide hO4
                    replace hg4 := hide hg4
                    refine wpAnyH_take (i := 11) (oi := ({ dst := some 45, op := Op.fieldAddr 25 (Operand.tmp 3) 2, type := 0, pos := _, after := _, guard := _ } : Oper)) (v := ?_) rfl (by kernel_rfl) (by kernel_rfl) (by kernel_rfl) (fun _ _ _ h => h) (Or.inl ⟨by rfl, ?_⟩) (by assumption) ?_
                    rotate_left
                    · (intro wz hSw; (try dsimp only at hSw); go_simp; try with_reducible rfl)
                    simp only [Act.put, List.setIfInBounds_toArray, List.set_cons_zero, List.set_cons_succ]
                    refine wpAnyH_ready (rs := [12]) (by kernel_rfl) (by simp) ?_
                    refine AllReadyH.cons (o := ({ dst := none, op := Op.store 23 (Operand.tmp 45) (Operand.tmp 44), type := 0, pos := _, after := _, guard := _ } : Oper)) rfl (fun K hK => ?_) AllReadyH.nil
                    · have zb := (L3.out.boxR hg4.out).1
                      have zf := (L3.out.boxR hg4.out).2
                      have z0 := zb.c0
                      have z1 := zb.c1
                      have z2 := zb.c2
                      have y0 := zf.f0
                      have y1 := zf.f1
                      have y2 := zf.f2
                      clear zb zf
                      go_simp
                      have L5 := hide (L3.out.appR (by decide) I3.out hO4.out hg4.out)
                      have b5 := hide (b4.out.setCell (p := ⟨q2, 2, none⟩) (Nat.le_refl _) (.slice a4 (es.length + 1) c4))
                      refine hK.out _ _ (HS.out _ b5.out) (fun hH5 => ?_)
                      clear hK K z0 z1 z2 y0 y1 y2
                      obtain ⟨w5, hw5⟩ : ∃ z9, z9 = w4.setCell ⟨q2, 2, none⟩ (.slice a4 (es.length + 1) c4) := ⟨_, rfl⟩
                      rw [← hw5] at hH5 L5 b5  ⊢
                      clear hw5
                      refine wpAnyH_done (by kernel_rfl) ?_ _
                      clear HS
                      go_wp2_with fail
                      exact ⟨⟨k + 1, _, _, by simp, by omega, ⟨KW.out.1.of (b5.out.block q0 FQ.out.1), KW.out.2.1.of (b5.out.block q1 FQ.out.2.1), KW.out.2.2.of (b5.out.block q1 FQ.out.2.1), by rw [take_more HX.out]; exact L5.out, BW.out.trans (b5.out.mono FQ.out.2.2.1)⟩⟩, by simp [intOf]; omega⟩
    · have hlt : k < vs.length := by omega
      have hlt' : (k : Int) < vs.length := by omega
      obtain ⟨b1, o1, x, hX, rfl, hx6⟩ := HV.out.at hlt
      have HX := hide hX
      have H6 := hide hx6
      have e1 := h4.out.1.c1
      clear hX hx6
      go_upto_region 5 with fail
      clear e1
      go_name_world W hW
      rw [hW] at h4
      clear hW
      have KW : Hid (Bs W q0 r (.slice (some ⟨b1, o1, none⟩) vs.length c) (.slice b ss.length d) ∧ Bs W q1 false (.slice none 0 0) (.slice none 0 0) ∧ Fs W q1) := ⟨h4.out.1, h4.out.2.1, h4.out.2.2.1⟩
      have LW := hide h4.out.2.2.2.1
      have BW := hide h4.out.2.2.2.2
      clear h4
      have HS : Hid (∀ w', Below q2 W w' → (w'.cell? ⟨q0, 1, none⟩ = some (.slice (some ⟨b1, o1, none⟩) vs.length c) ∧ w'.cell? ⟨b1, o1 + k * 6, none⟩ = some (.int .i64 x.s) ∧ w'.cell? ⟨b1, o1 + k * 6 + 1, none⟩ = some (.bool x.k) ∧ w'.cell? ⟨b1, o1 + k * 6 + 2, none⟩ = some (.int .i64 x.n) ∧ w'.cell? ⟨b1, o1 + k * 6 + 3, none⟩ = some (.int .i64 x.lo) ∧ w'.cell? ⟨b1, o1 + k * 6 + 4, none⟩ = some (.int .i64 x.hi) ∧ w'.cell? ⟨b1, o1 + k * 6 + 5, none⟩ = some (.int .i64 x.p))) := fun w' h => by
        have t := H6.out.keep (BW.out.trans (h.mono FQ.out.2.2.1))
        exact ⟨(h.cell (p := ⟨q0, 1, none⟩) FQ.out.1).trans KW.out.1.c1, t.c0, t.c1, t.c2, t.c3, t.c4, t.c5⟩
      obtain ⟨pv, hpv⟩ : ∃ z9, z9 = vs.take k := ⟨_, rfl⟩
      have hlv : pv.length ≤ 1000000 := by rw [hpv, List.length_take]; omega
      rw [← hpv] at LW
      have HPV := hide hpv
      clear hpv
      refine wp_region_held_drew (S := fun w' => w'.cell? ⟨q0, 1, none⟩ = some (.slice (some ⟨b1, o1, none⟩) vs.length c) ∧ w'.cell? ⟨b1, o1 + k * 6, none⟩ = some (.int .i64 x.s) ∧ w'.cell? ⟨b1, o1 + k * 6 + 1, none⟩ = some (.bool x.k) ∧ w'.cell? ⟨b1, o1 + k * 6 + 2, none⟩ = some (.int .i64 x.n) ∧ w'.cell? ⟨b1, o1 + k * 6 + 3, none⟩ = some (.int .i64 x.lo) ∧ w'.cell? ⟨b1, o1 + k * 6 + 4, none⟩ = some (.int .i64 x.hi) ∧ w'.cell? ⟨b1, o1 + k * 6 + 5, none⟩ = some (.int .i64 x.p)) (by kernel_rfl) (HS.out _ (Below.refl _ _).drew) (fun hH0 => ?_)
      obtain ⟨w0, hw0⟩ : ∃ w0, w0 = W.drew := ⟨_, rfl⟩
      (try rw [← hw0] at hH0)
      rw [← hw0]
      have L0 : Hid (Lo w0 (q2 + 1) q2 48 ⟨r, pv, []⟩ va (.slice none 0 0) []) := hw0 ▸ hide (LW.out.of (Below.refl _ _).drew)
      have b0 : Hid (Below q2 W w0) := hw0 ▸ hide (Below.refl _ _).drew
      clear hw0
      refine wpAnyH_take (i := 0) (oi := ({ dst := some 16, op := Op.fieldAddr 25 (Operand.tmp 3) 1, type := 0, pos := _, after := _, guard := _ } : Oper)) (v := ?_) rfl (by kernel_rfl) (by kernel_rfl) (by kernel_rfl) (fun _ _ _ h => h) (Or.inl ⟨by rfl, ?_⟩) (by assumption) ?_
      rotate_left
      · (intro wz hSw; (try dsimp only at hSw); go_simp; try with_reducible rfl)
      simp only [Act.put, List.setIfInBounds_toArray, List.set_cons_zero, List.set_cons_succ]
      refine wpAnyH_take (i := 2) (oi := ({ dst := some 18, op := Op.fieldAddr 29 (Operand.tmp 1) 1, type := 0, pos := _, after := _, guard := _ } : Oper)) (v := ?_) rfl (by kernel_rfl) (by kernel_rfl) (by kernel_rfl) (fun _ _ _ h => h) (Or.inl ⟨by rfl, ?_⟩) (by assumption) ?_
      rotate_left
      · (intro wz hSw; (try dsimp only at hSw); go_simp; try with_reducible rfl)
      simp only [Act.put, List.setIfInBounds_toArray, List.set_cons_zero, List.set_cons_succ]
      refine wpAnyH_take (i := 3) (oi := ({ dst := some 19, op := Op.load 27 (Operand.tmp 18), type := 27, pos := _, after := _, guard := _ } : Oper)) (v := ?_) rfl (by kernel_rfl) (by kernel_rfl) (by kernel_rfl) (fun _ _ _ h => h) (Or.inl ⟨by rfl, ?_⟩) (by assumption) ?_
      rotate_left
      · (intro wz hSw; (try dsimp only at hSw); go_simp; try with_reducible rfl)
      simp only [Act.put, List.setIfInBounds_toArray, List.set_cons_zero, List.set_cons_succ]
      refine wpAnyH_take (i := 4) (oi := ({ dst := some 20, op := Op.move (Operand.tmp 4), type := 3, pos := _, after := _, guard := _ } : Oper)) (v := ?_) rfl (by kernel_rfl) (by kernel_rfl) (by kernel_rfl) (fun _ _ _ h => h) (Or.inl ⟨by rfl, ?_⟩) (by assumption) ?_
      rotate_left
      · (intro wz hSw; (try dsimp only at hSw); go_simp; try with_reducible rfl)
      simp only [Act.put, List.setIfInBounds_toArray, List.set_cons_zero, List.set_cons_succ]
      refine wpAnyH_take (i := 5) (oi := ({ dst := some 21, op := Op.indexAddr 27 (Operand.tmp 19) (Operand.tmp 20), type := 0, pos := _, after := _, guard := _ } : Oper)) (v := ?_) rfl (by kernel_rfl) (by kernel_rfl) (by kernel_rfl) (fun _ _ _ h => h) (Or.inl ⟨by rfl, ?_⟩) (by assumption) ?_
      rotate_left
      · (intro wz hSw; (try dsimp only at hSw); go_simp; try with_reducible rfl)
      simp only [Act.put, List.setIfInBounds_toArray, List.set_cons_zero, List.set_cons_succ]
      refine wpAnyH_take (i := 6) (oi := ({ dst := some 22, op := Op.load 53 (Operand.tmp 21), type := 53, pos := _, after := _, guard := _ } : Oper)) (v := ?_) rfl (by kernel_rfl) (by kernel_rfl) (by kernel_rfl) (fun _ _ _ h => h) (Or.inl ⟨by rfl, ?_⟩) (by assumption) ?_
      rotate_left
      · (intro wz hSw; (try dsimp only at hSw); go_simp; try with_reducible rfl)
      simp only [Act.put, List.setIfInBounds_toArray, List.set_cons_zero, List.set_cons_succ]
      refine wpAnyH_ready (rs := [1, 7]) (by kernel_rfl) (by simp) ?_
      refine AllReadyH.cons (o := ({ dst := some 17, op := Op.load 22 (Operand.tmp 16), type := 22, pos := _, after := _, guard := _ } : Oper)) rfl (fun K hK => ?_) (AllReadyH.cons (o := ({ dst := some 23, op := Op.call { callee := Callee.value (Operand.func 85), args := #[Operand.tmp 22], argTypes := #[53] }, type := 48, pos := _, after := _, guard := _ } : Oper)) rfl (fun K hK => ?_) AllReadyH.nil)
      · have zc := L0.out.bx.c1
        go_simp
        refine hK.out _ _ hH0 (fun _ => ?_)
        clear hK K zc
        refine wpAnyH_ready (rs := [7]) (by kernel_rfl) (by simp) ?_
        refine AllReadyH.cons (o := ({ dst := some 23, op := Op.call { callee := Callee.value (Operand.func 85), args := #[Operand.tmp 22], argTypes := #[53] }, type := 48, pos := _, after := _, guard := _ } : Oper)) rfl (fun K hK => ?_) AllReadyH.nil
        · go_simp
          go_at_call 85
          refine (from_V x.s x.k x.n x.lo x.hi x.p _).mono ?_
          rintro e w1 ⟨rfl, hb1⟩
          have L1 := hide (L0.out.of hb1)
          have b1 := hide (b0.out.trans (hb1.mono (Nat.le_of_lt L0.out.bx.lt)))
          refine hK.out _ _ (HS.out _ b1.out) (fun hH1 => ?_)
          clear hK K hb1
          refine wpAnyH_ready (rs := [8]) (by kernel_rfl) (by simp) ?_
          refine AllReadyH.cons (o := ({ dst := some 24, op := Op.buildSlice 22 1 #[(0, Operand.tmp 23)], type := 22, pos := _, after := _, guard := _ } : Oper)) rfl (fun K hK => ?_) AllReadyH.nil
          · go_simp
            have hb2 : Below w1.heap.size w1 (w1.alloc (.cells #[.int .i64 x.s, .bool x.k, .int .i64 x.n, .int .i64 x.lo, .int .i64 x.hi, .int .i64 x.p] 48)) := (Below.refl _ _).alloc (Nat.le_refl _) _
            have L2 := hide (L1.out.of hb2)
            have b2 := hide (b1.out.trans (hb2.mono (Nat.le_of_lt L1.out.bx.lt)))
            have Y2 := hide (B6.new w1 x 48)
            refine hK.out _ _ (HS.out _ b2.out) (fun hH2 => ?_)
            clear hK K hb2
            obtain ⟨w2, hw2⟩ : ∃ z9, z9 = (w1.alloc (.cells #[.int .i64 x.s, .bool x.k, .int .i64 x.n, .int .i64 x.lo, .int .i64 x.hi, .int .i64 x.p] 48)) := ⟨_, rfl⟩
            rw [← hw2] at hH2 L2 b2 Y2 ⊢
            clear hw2
            generalize w1.heap.size = nb at *
            refine wpAnyH_ready (rs := [9]) (by kernel_rfl) (by simp) ?_
            refine AllReadyH.cons (o := ({ dst := some 25, op := Op.call { callee := Callee.builtin Builtin.append, args := #[Operand.tmp 17, Operand.tmp 24], argTypes := #[22, 22] }, type := 22, pos := _, after := _, guard := _ } : Oper)) rfl (fun K hK => ?_) AllReadyH.nil
            · refine wp_appV' w2 (q2 + 1) 22 48 Try.underlying22 info48p (.tmp 17) (.tmp 24) rfl _ pv x nb L2.out.ov Y2.out rfl rfl ?_ (Nat.succ_le_of_lt L2.out.bx.lt) ?_
              · first | omega | (simp; omega)
              intro a3 c3 w3 hO3 hg3
              have b3 := hide (L2.out.belV b2.out hg3)
              refine hK.out _ _ (HS.out _ b3.out) (fun hH3 => ?_)
              clear hK K
              replace hO3 := hide hO3
              replace hg3 := hide hg3
              refine wpAnyH_take (i := 10) (oi := ({ dst := some 26, op := Op.fieldAddr 25 (Operand.tmp 3) 1, type := 0, pos := _, after := _, guard := _ } : Oper)) (v := ?_) rfl (by kernel_rfl) (by kernel_rfl) (by kernel_rfl) (fun _ _ _ h => h) (Or.inl ⟨by rfl, ?_⟩) (by assumption) ?_
              rotate_left
              · (intro wz hSw; (try dsimp only at hSw); go_simp; try with_reducible rfl)
              simp only [Act.put, List.setIfInBounds_toArray, List.set_cons_zero, List.set_cons_succ]
              refine wpAnyH_ready (rs := [11]) (by kernel_rfl) (by simp) ?_
              refine AllReadyH.cons (o := ({ dst := none, op := Op.store 22 (Operand.tmp 26) (Operand.tmp 25), type := 0, pos := _, after := _, guard := _ } : Oper)) rfl (fun K hK => ?_) AllReadyH.nil
              · have zb := (L2.out.boxV hg3.out).1
                have zf := (L2.out.boxV hg3.out).2
                have z0 := zb.c0
                have z1 := zb.c1
                have z2 := zb.c2
                have y0 := zf.f0
                have y1 := zf.f1
                have y2 := zf.f2
                clear zb zf
                go_simp
                have L4 := hide (L2.out.appV (by decide) (by decide) hO3.out hg3.out)
                have b4 := hide (b3.out.setCell (p := ⟨q2, 1, none⟩) (Nat.le_refl _) (.slice a3 (pv.length + 1) c3))
                refine hK.out _ _ (HS.out _ b4.out) (fun hH4 => ?_)
                clear hK K z0 z1 z2 y0 y1 y2
                obtain ⟨w4, hw4⟩ : ∃ z9, z9 = w3.setCell ⟨q2, 1, none⟩ (.slice a3 (pv.length + 1) c3) := ⟨_, rfl⟩
                rw [← hw4] at hH4 L4 b4  ⊢
                clear hw4
                refine wpAnyH_done (by kernel_rfl) ?_ _
                clear HS
                go_wp2_with fail
                exact ⟨⟨k + 1, _, by simp, by omega, ⟨KW.out.1.of (b4.out.block q0 FQ.out.1), KW.out.2.1.of (b4.out.block q1 FQ.out.2.1), KW.out.2.2.of (b4.out.block q1 FQ.out.2.1), by rw [take_more HX.out, ← HPV.out]; exact L4.out, BW.out.trans (b4.out.mono FQ.out.2.2.1)⟩⟩, by simp [intOf]; omega⟩
      · go_simp
        go_at_call 85
        refine (from_V x.s x.k x.n x.lo x.hi x.p _).mono ?_
        rintro e w1 ⟨rfl, hb1⟩
        have L1 := hide (L0.out.of hb1)
        have b1 := hide (b0.out.trans (hb1.mono (Nat.le_of_lt L0.out.bx.lt)))
        refine hK.out _ _ (HS.out _ b1.out) (fun hH1 => ?_)
        clear hK K hb1
        refine wpAnyH_ready (rs := [1, 8]) (by kernel_rfl) (by simp) ?_
        refine AllReadyH.cons (o := ({ dst := some 17, op := Op.load 22 (Operand.tmp 16), type := 22, pos := _, after := _, guard := _ } : Oper)) rfl (fun K hK => ?_) (AllReadyH.cons (o := ({ dst := some 24, op := Op.buildSlice 22 1 #[(0, Operand.tmp 23)], type := 22, pos := _, after := _, guard := _ } : Oper)) rfl (fun K hK => ?_) AllReadyH.nil)
        · have zc := L1.out.bx.c1
          go_simp
          refine hK.out _ _ hH1 (fun _ => ?_)
          clear hK K zc
          refine wpAnyH_ready (rs := [8]) (by kernel_rfl) (by simp) ?_
          refine AllReadyH.cons (o := ({ dst := some 24, op := Op.buildSlice 22 1 #[(0, Operand.tmp 23)], type := 22, pos := _, after := _, guard := _ } : Oper)) rfl (fun K hK => ?_) AllReadyH.nil
          · go_simp
            have hb2 : Below w1.heap.size w1 (w1.alloc (.cells #[.int .i64 x.s, .bool x.k, .int .i64 x.n, .int .i64 x.lo, .int .i64 x.hi, .int .i64 x.p] 48)) := (Below.refl _ _).alloc (Nat.le_refl _) _
            have L2 := hide (L1.out.of hb2)
            have b2 := hide (b1.out.trans (hb2.mono (Nat.le_of_lt L1.out.bx.lt)))
            have Y2 := hide (B6.new w1 x 48)
            refine hK.out _ _ (HS.out _ b2.out) (fun hH2 => ?_)
            clear hK K hb2
            obtain ⟨w2, hw2⟩ : ∃ z9, z9 = (w1.alloc (.cells #[.int .i64 x.s, .bool x.k, .int .i64 x.n, .int .i64 x.lo, .int .i64 x.hi, .int .i64 x.p] 48)) := ⟨_, rfl⟩
            rw [← hw2] at hH2 L2 b2 Y2 ⊢
            clear hw2
            generalize w1.heap.size = nb at *
            refine wpAnyH_ready (rs := [9]) (by kernel_rfl) (by simp) ?_
            refine AllReadyH.cons (o := ({ dst := some 25, op := Op.call { callee := Callee.builtin Builtin.append, args := #[Operand.tmp 17, Operand.tmp 24], argTypes := #[22, 22] }, type := 22, pos := _, after := _, guard := _ } : Oper)) rfl (fun K hK => ?_) AllReadyH.nil
            · refine wp_appV' w2 (q2 + 1) 22 48 Try.underlying22 info48p (.tmp 17) (.tmp 24) rfl _ pv x nb L2.out.ov Y2.out rfl rfl ?_ (Nat.succ_le_of_lt L2.out.bx.lt) ?_
              · first | omega | (simp; omega)
              intro a3 c3 w3 hO3 hg3
              have b3 := hide (L2.out.belV b2.out hg3)
              refine hK.out _ _ (HS.out _ b3.out) (fun hH3 => ?_)
              clear hK K
              replace hO3 := hide hO3
              replace hg3 := hide hg3
              refine wpAnyH_take (i := 10) (oi := ({ dst := some 26, op := Op.fieldAddr 25 (Operand.tmp 3) 1, type := 0, pos := _, after := _, guard := _ } : Oper)) (v := ?_) rfl (by kernel_rfl) (by kernel_rfl) (by kernel_rfl) (fun _ _ _ h => h) (Or.inl ⟨by rfl, ?_⟩) (by assumption) ?_
              rotate_left
              · (intro wz hSw; (try dsimp only at hSw); go_simp; try with_reducible rfl)
              simp only [Act.put, List.setIfInBounds_toArray, List.set_cons_zero, List.set_cons_succ]
              refine wpAnyH_ready (rs := [11]) (by kernel_rfl) (by simp) ?_
              refine AllReadyH.cons (o := ({ dst := none, op := Op.store 22 (Operand.tmp 26) (Operand.tmp 25), type := 0, pos := _, after := _, guard := _ } : Oper)) rfl (fun K hK => ?_) AllReadyH.nil
              · have zb := (L2.out.boxV hg3.out).1
                have zf := (L2.out.boxV hg3.out).2
                have z0 := zb.c0
                have z1 := zb.c1
                have z2 := zb.c2
                have y0 := zf.f0
                have y1 := zf.f1
                have y2 := zf.f2
                clear zb zf
                go_simp
                have L4 := hide (L2.out.appV (by decide) (by decide) hO3.out hg3.out)
                have b4 := hide (b3.out.setCell (p := ⟨q2, 1, none⟩) (Nat.le_refl _) (.slice a3 (pv.length + 1) c3))
                refine hK.out _ _ (HS.out _ b4.out) (fun hH4 => ?_)
                clear hK K z0 z1 z2 y0 y1 y2
                obtain ⟨w4, hw4⟩ : ∃ z9, z9 = w3.setCell ⟨q2, 1, none⟩ (.slice a3 (pv.length + 1) c3) := ⟨_, rfl⟩
                rw [← hw4] at hH4 L4 b4  ⊢
                clear hw4
                refine wpAnyH_done (by kernel_rfl) ?_ _
                clear HS
                go_wp2_with fail
                exact ⟨⟨k + 1, _, by simp, by omega, ⟨KW.out.1.of (b4.out.block q0 FQ.out.1), KW.out.2.1.of (b4.out.block q1 FQ.out.2.1), KW.out.2.2.of (b4.out.block q1 FQ.out.2.1), by rw [take_more HX.out, ← HPV.out]; exact L4.out, BW.out.trans (b4.out.mono FQ.out.2.2.1)⟩⟩, by simp [intOf]; omega⟩
        · go_simp
          have hb2 : Below w1.heap.size w1 (w1.alloc (.cells #[.int .i64 x.s, .bool x.k, .int .i64 x.n, .int .i64 x.lo, .int .i64 x.hi, .int .i64 x.p] 48)) := (Below.refl _ _).alloc (Nat.le_refl _) _
          have L2 := hide (L1.out.of hb2)
          have b2 := hide (b1.out.trans (hb2.mono (Nat.le_of_lt L1.out.bx.lt)))
          have Y2 := hide (B6.new w1 x 48)
          refine hK.out _ _ (HS.out _ b2.out) (fun hH2 => ?_)
          clear hK K hb2
          obtain ⟨w2, hw2⟩ : ∃ z9, z9 = (w1.alloc (.cells #[.int .i64 x.s, .bool x.k, .int .i64 x.n, .int .i64 x.lo, .int .i64 x.hi, .int .i64 x.p] 48)) := ⟨_, rfl⟩
          rw [← hw2] at hH2 L2 b2 Y2 ⊢
          clear hw2
          generalize w1.heap.size = nb at *
          refine wpAnyH_ready (rs := [1]) (by kernel_rfl) (by simp) ?_
          refine AllReadyH.cons (o := ({ dst := some 17, op := Op.load 22 (Operand.tmp 16), type := 22, pos := _, after := _, guard := _ } : Oper)) rfl (fun K hK => ?_) AllReadyH.nil
          · have zc := L2.out.bx.c1
            go_simp
            refine hK.out _ _ hH2 (fun _ => ?_)
            clear hK K zc
            refine wpAnyH_ready (rs := [9]) (by kernel_rfl) (by simp) ?_
            refine AllReadyH.cons (o := ({ dst := some 25, op := Op.call { callee := Callee.builtin Builtin.append, args := #[Operand.tmp 17, Operand.tmp 24], argTypes := #[22, 22] }, type := 22, pos := _, after := _, guard := _ } : Oper)) rfl (fun K hK => ?_) AllReadyH.nil
            · refine wp_appV' w2 (q2 + 1) 22 48 Try.underlying22 info48p (.tmp 17) (.tmp 24) rfl _ pv x nb L2.out.ov Y2.out rfl rfl ?_ (Nat.succ_le_of_lt L2.out.bx.lt) ?_
              · first | omega | (simp; omega)
              intro a3 c3 w3 hO3 hg3
              have b3 := hide (L2.out.belV b2.out hg3)
              refine hK.out _ _ (HS.out _ b3.out) (fun hH3 => ?_)
              clear hK K
              replace hO3 := hide hO3
              replace hg3 := hide hg3
              refine wpAnyH_take (i := 10) (oi := ({ dst := some 26, op := Op.fieldAddr 25 (Operand.tmp 3) 1, type := 0, pos := _, after := _, guard := _ } : Oper)) (v := ?_) rfl (by kernel_rfl) (by kernel_rfl) (by kernel_rfl) (fun _ _ _ h => h) (Or.inl ⟨by rfl, ?_⟩) (by assumption) ?_
              rotate_left
              · (intro wz hSw; (try dsimp only at hSw); go_simp; try with_reducible rfl)
              simp only [Act.put, List.setIfInBounds_toArray, List.set_cons_zero, List.set_cons_succ]
              refine wpAnyH_ready (rs := [11]) (by kernel_rfl) (by simp) ?_
              refine AllReadyH.cons (o := ({ dst := none, op := Op.store 22 (Operand.tmp 26) (Operand.tmp 25), type := 0, pos := _, after := _, guard := _ } : Oper)) rfl (fun K hK => ?_) AllReadyH.nil
              · have zb := (L2.out.boxV hg3.out).1
                have zf := (L2.out.boxV hg3.out).2
                have z0 := zb.c0
                have z1 := zb.c1
                have z2 := zb.c2
                have y0 := zf.f0
                have y1 := zf.f1
                have y2 := zf.f2
                clear zb zf
                go_simp
                have L4 := hide (L2.out.appV (by decide) (by decide) hO3.out hg3.out)
                have b4 := hide (b3.out.setCell (p := ⟨q2, 1, none⟩) (Nat.le_refl _) (.slice a3 (pv.length + 1) c3))
                refine hK.out _ _ (HS.out _ b4.out) (fun hH4 => ?_)
                clear hK K z0 z1 z2 y0 y1 y2
                obtain ⟨w4, hw4⟩ : ∃ z9, z9 = w3.setCell ⟨q2, 1, none⟩ (.slice a3 (pv.length + 1) c3) := ⟨_, rfl⟩
                rw [← hw4] at hH4 L4 b4  ⊢
                clear hw4
                refine wpAnyH_done (by kernel_rfl) ?_ _
                clear HS
                go_wp2_with fail
                exact ⟨⟨k + 1, _, by simp, by omega, ⟨KW.out.1.of (b4.out.block q0 FQ.out.1), KW.out.2.1.of (b4.out.block q1 FQ.out.2.1), KW.out.2.2.of (b4.out.block q1 FQ.out.2.1), by rw [take_more HX.out, ← HPV.out]; exact L4.out, BW.out.trans (b4.out.mono FQ.out.2.2.1)⟩⟩, by simp [intOf]; omega⟩
end Go.Proofs.Ytmhicllhjiglkaa
namespace Go.Proofs.Ytmhicllhjiglkaa
open Go.RowKit
set_option maxRecDepth 100000 in
set_option maxHeartbeats 8000000 in
theorem equalr_S (a1 b1 a2 b2 : Option Addr) (c1 d1 c2 d2 : Nat) (r : Bool) (vs : List R) (ss : List (List Int)) (w : World) (hv1 : RV w a1 vs) (hs1 : RR w b1 ss) (hv2 : RV w a2 vs) (hs2 : RR w b2 ss) (hl1 : vs.length ≤ 100000) (hl2 : ss.length ≤ 100000) (hl3 : ∀ (m : Nat) (l : List Int), ss[m]? = some l → l.length ≤ 100000) :
    Calls Try.prog 21 #[.agg #[.bool r, .slice a1 vs.length c1, .slice b1 ss.length d1], .agg #[.bool r, .slice a2 vs.length c2, .slice b2 ss.length d2]] w fun e w' => e = .returned (.bool true) ∧ Below w.heap.size w w' := by
  have HV1 := hide hv1
  have HR1 := hide hs1
  have HV2 := hide hv2
  have HR2 := hide hs2
  have HL3 := hide hl3
  clear hv1 hs1 hv2 hs2 hl3
  have i1 : (vs.length : Int) ≤ 100000 := by omega
  have i2 : (ss.length : Int) ≤ 100000 := by omega
  have b1' : ((vs.length : Int) != vs.length) = false := by simp
  have b2' : ((ss.length : Int) != ss.length) = false := by simp
  have b3' : (r != r) = false := by simp
  go_enter Try.func21, Try.ntmps21
  go_upto_region 3 with fail
  go_name_world W hW
  obtain ⟨q1, h1⟩ : ∃ z9, z9 = w.heap.size + 1 := ⟨_, rfl⟩
  rw [← h1]
  obtain ⟨q0, h0⟩ : ∃ z9, z9 = w.heap.size := ⟨_, rfl⟩
  rw [← h0]
  have H1 : Hid (Bs W q0 r (.slice a1 vs.length c1) (.slice b1 ss.length d1) ∧ Bs W q1 r (.slice a2 vs.length c2) (.slice b2 ss.length d2) ∧ Below w.heap.size w W) := by
    unfold Hid
    rw [h1, h0]
    obtain ⟨B0, -, B1, -, u⟩ := boxes2 w _ _ _ _ _ _ _ _ W hW
    exact ⟨B0, B1, u⟩
  clear hW h1 h0 b1' b2' b3'
  have e1 := H1.out.1.c1
  have e2 := H1.out.2.1.c1
  go_wp2_with fail
  go_loopw [5] (fun sk wr => ∃ k n : Nat, wr = W.drewN n ∧ sk = .int .i64 k ∧ k ≤ vs.length) (fun sk _ => vs.length - (intOf sk).toNat)
  case atStart => exact ⟨0, 0, rfl, rfl, Nat.zero_le _⟩
  case round =>
    obtain ⟨k, n, rfl, rfl, hk⟩ := hrel
    by_cases hkv : k < vs.length
    · have hkv2 : (k : Int) < vs.length := by omega
      obtain ⟨b3, o3, x, hX, rfl, hx6⟩ := HV1.out.at hkv
      obtain ⟨b4, o4, x', hX', rfl, hy6⟩ := HV2.out.at hkv
      obtain rfl : x = x' := Option.some.inj (hX.symm.trans hX')
      have t6 := hx6.keep H1.out.2.2
      have s6 := hy6.keep H1.out.2.2
      have d0 := t6.c0
      have d1 := t6.c1
      have d2 := t6.c2
      have d3 := t6.c3
      have d4 := t6.c4
      have d5 := t6.c5
      have g0 := s6.c0
      have g1 := s6.c1
      have g2 := s6.c2
      have g3 := s6.c3
      have g4 := s6.c4
      have g5 := s6.c5
      clear hX hX' hx6 hy6 t6 s6
      go_wp2
      go_quiet (fail)
      go_wp2
      exact ⟨⟨k + 1, n + nq, rfl, by simp, by omega⟩, by simp [intOf]; omega⟩
    · have hke : k = vs.length := by omega
      subst hke
      have e3 := H1.out.1.c2
      have e4 := H1.out.2.1.c2
      go_wp2_with fail
      go_loopw [6] (fun sk wr => ∃ k n : Nat, wr = W.drewN n ∧ sk = .int .i64 k ∧ k ≤ ss.length) (fun sk _ => ss.length - (intOf sk).toNat)
      case atStart => exact ⟨0, n, rfl, rfl, Nat.zero_le _⟩
      case round =>
        obtain ⟨k, m, rfl, rfl, hk⟩ := hrel
        by_cases hkv : k < ss.length
        · have hkv2 : (k : Int) < ss.length := by omega
          obtain ⟨b3, o3, l, ai, ci, hX, rfl, f1, f2, f3, f4⟩ := HR1.out.at hkv
          obtain ⟨b4, o4, l', aj, cj, hX', rfl, f5, f6, f7, f8⟩ := HR2.out.at hkv
          obtain rfl : l = l' := Option.some.inj (hX.symm.trans hX')
          have hl := HL3.out k l hX
          have y1 := (H1.out.2.2.cell (p := ⟨b3, o3 + k, none⟩) (World.block_lt_of_cell? w _ f1)).trans f1
          have y2 := (H1.out.2.2.cell (p := ⟨b4, o4 + k, none⟩) (World.block_lt_of_cell? w _ f5)).trans f5
          have HI := hide (f2.keep' H1.out.2.2)
          have HJ := hide (f6.keep' H1.out.2.2)
          obtain ⟨V, hV⟩ : ∃ z9, z9 = W.drewN m := ⟨_, rfl⟩
          rw [← hV]
          have x1 : V.cell? ⟨b3, o3 + k, none⟩ = some (.slice ai l.length ci) := by rw [hV]; exact y1
          have x2 : V.cell? ⟨b4, o4 + k, none⟩ = some (.slice aj l.length cj) := by rw [hV]; exact y2
          have x3 : V.cell? ⟨q0, 2, none⟩ = some (.slice (some ⟨b3, o3, none⟩) ss.length d1) := by rw [hV]; exact e3
          have x4 : V.cell? ⟨q1, 2, none⟩ = some (.slice (some ⟨b4, o4, none⟩) ss.length d2) := by rw [hV]; exact e4
          have CS : ∀ z, Calls Try.prog 56 #[.slice ai l.length ci, .slice aj l.length cj] (V.drewN z) fun e w'' => e = .returned (.bool true) ∧ ∃ y, w'' = V.drewN y := fun z => by
            rw [hV]
            exact (brsame_any l l ai aj ci cj ((W.drewN m).drewN z) ((HI.out.drewN m).drewN z) ((HJ.out.drewN m).drewN z) (by omega) (by omega)).mono fun e w'' ⟨⟨y, hy⟩, he⟩ => ⟨by rw [he, show sameL l l = true from decide_eq_true rfl], z + y, by rw [hy]; simp [Nat.add_assoc]⟩
          have HVw := hide hV
          clear hX hX' f1 f2 f3 f4 f5 f6 f7 f8 y1 y2 e3 e4 hV
          go_wp2
          go_quiet ((go_at_call 56; exact CS _))
          go_wp2
          exact ⟨⟨k + 1, m + nq, by rw [HVw.out]; simp, by simp, by omega⟩, by simp [intOf]; omega⟩
        · have hke : k = ss.length := by omega
          subst hke
          go_wp2
          go_ret
          exact ⟨by simp, below_drewN H1.out.2.2 m⟩
set_option maxRecDepth 100000 in
set_option maxHeartbeats 8000000 in
theorem same_S0 (a1 b1 a2 b2 : Option Addr) (c1 d1 c2 d2 : Nat) (r : Bool) (vs : List R) (ss : List (List Int)) (w : World) (hv1 : RV w a1 vs) (hs1 : RR w b1 ss) (hv2 : RV w a2 vs) (hs2 : RR w b2 ss) (hl1 : vs.length ≤ 100000) (hl2 : ss.length ≤ 100000) (hl3 : ∀ (m : Nat) (l : List Int), ss[m]? = some l → l.length ≤ 100000) :
    Calls Try.prog 13 #[.agg #[.bool r, .slice a1 vs.length c1, .slice b1 ss.length d1], .agg #[.bool r, .slice a2 vs.length c2, .slice b2 ss.length d2]] w fun e w' => e = .returned (.bool true) ∧ Below w.heap.size w w' := by
  have HL3 := hide hl3
  have HV1' := hide hv1
  have HR1' := hide hs1
  have HV2' := hide hv2
  have HR2' := hide hs2
  clear hv1 hs1 hv2 hs2 hl3
  go_enter Try.func13, Try.ntmps13
  go_upto_region 1 with fail
  go_name_world W hW
  obtain ⟨q1, h1⟩ : ∃ z9, z9 = w.heap.size + 1 := ⟨_, rfl⟩
  rw [← h1]
  obtain ⟨q0, h0⟩ : ∃ z9, z9 = w.heap.size := ⟨_, rfl⟩
  rw [← h0]
  have H1 : Hid (Bs W q0 r (.slice a1 vs.length c1) (.slice b1 ss.length d1) ∧ Bs W q1 r (.slice a2 vs.length c2) (.slice b2 ss.length d2) ∧ Below w.heap.size w W) := by
    unfold Hid
    rw [h1, h0]
    obtain ⟨B0, -, B1, -, u⟩ := boxes2 w _ _ _ _ _ _ _ _ W hW
    exact ⟨B0, B1, u⟩
  clear hW h1 h0
  have BW := hide H1.out.2.2
  have HV1 := hide (HV1'.out.keep BW.out)
  have HV2 := hide (HV2'.out.keep BW.out)
  have HR1 := hide (HR1'.out.keep BW.out)
  have HR2 := hide (HR2'.out.keep BW.out)
  have HS : Hid (∀ w', Below W.heap.size W w' → (w'.cell? ⟨q0, 0, none⟩ = some (.bool r) ∧ w'.cell? ⟨q0, 1, none⟩ = some (.slice a1 vs.length c1) ∧ w'.cell? ⟨q0, 2, none⟩ = some (.slice b1 ss.length d1) ∧ w'.cell? ⟨q1, 0, none⟩ = some (.bool r) ∧ w'.cell? ⟨q1, 1, none⟩ = some (.slice a2 vs.length c2) ∧ w'.cell? ⟨q1, 2, none⟩ = some (.slice b2 ss.length d2))) := fun w' h => by
    have t0 := H1.out.1.keep h
    have t1 := H1.out.2.1.keep h
    exact ⟨t0.c0, t0.c1, t0.c2, t1.c0, t1.c1, t1.c2⟩
  clear H1 HV1' HV2' HR1' HR2'
  refine wp_region_held_drew (S := fun w' => w'.cell? ⟨q0, 0, none⟩ = some (.bool r) ∧ w'.cell? ⟨q0, 1, none⟩ = some (.slice a1 vs.length c1) ∧ w'.cell? ⟨q0, 2, none⟩ = some (.slice b1 ss.length d1) ∧ w'.cell? ⟨q1, 0, none⟩ = some (.bool r) ∧ w'.cell? ⟨q1, 1, none⟩ = some (.slice a2 vs.length c2) ∧ w'.cell? ⟨q1, 2, none⟩ = some (.slice b2 ss.length d2)) (by kernel_rfl) (HS.out _ (Below.refl _ _).drew) (fun hH0 => ?_)
  obtain ⟨w0, hw0⟩ : ∃ w0, w0 = W.drew := ⟨_, rfl⟩
  (try rw [← hw0] at hH0)
  rw [← hw0]
  have b0 : Hid (Below W.heap.size W w0) := hw0 ▸ hide (Below.refl _ _).drew
  clear hw0
  refine wpAnyH_take (i := 0) (oi := ({ dst := some 5, op := Op.load 29 (Operand.tmp 2), type := 29, pos := _, after := _, guard := _ } : Oper)) (v := ?_) rfl (by kernel_rfl) (by kernel_rfl) (by kernel_rfl) (fun _ _ _ h => h) (Or.inl ⟨by rfl, ?_⟩) (by assumption) ?_
  rotate_left
  · (intro wz hSw; (try dsimp only at hSw); go_simp; try with_reducible rfl)
  simp only [Act.put, List.setIfInBounds_toArray, List.set_cons_zero, List.set_cons_succ]
  refine wpAnyH_take (i := 2) (oi := ({ dst := some 7, op := Op.load 25 (Operand.tmp 3), type := 25, pos := _, after := _, guard := _ } : Oper)) (v := ?_) rfl (by kernel_rfl) (by kernel_rfl) (by kernel_rfl) (fun _ _ _ h => h) (Or.inl ⟨by rfl, ?_⟩) (by assumption) ?_
  rotate_left
  · (intro wz hSw; (try dsimp only at hSw); go_simp; try with_reducible rfl)
  simp only [Act.put, List.setIfInBounds_toArray, List.set_cons_zero, List.set_cons_succ]
  refine wpAnyH_ready (rs := [1]) (by kernel_rfl) (by simp) ?_
  refine AllReadyH.cons (o := ({ dst := some 6, op := Op.call { callee := Callee.value (Operand.func 42), args := #[Operand.tmp 5], argTypes := #[29] }, type := 25, pos := _, after := _, guard := _ } : Oper)) rfl (fun K hK => ?_) AllReadyH.nil
  · go_simp
    go_at_call 42
    refine (from_S a1 b1 c1 d1 r vs ss _ (HV1.out.keep b0.out) (HR1.out.keep b0.out) hl1 hl2 HL3.out).mono ?_
    rintro e w1 ⟨v, rfl, hR, hb1⟩
    obtain ⟨a3, c3, b3, d3, rfl, k1, k2, -, -, -, -⟩ := hR.rs
    dsimp only at k1 k2 ⊢
    have b1 := hide (b0.out.trans (hb1.mono b0.out.size))
    have K1 := hide k1
    have K2 := hide k2
    refine hK.out _ _ (HS.out _ b1.out) (fun hH1 => ?_)
    clear hK K hb1 k1 k2
    refine wpAnyH_ready (rs := [3]) (by kernel_rfl) (by simp) ?_
    refine AllReadyH.cons (o := ({ dst := some 8, op := Op.call { callee := Callee.value (Operand.func 21), args := #[Operand.tmp 6, Operand.tmp 7], argTypes := #[25, 25] }, type := 4, pos := _, after := _, guard := _ } : Oper)) rfl (fun K hK => ?_) AllReadyH.nil
    · go_simp
      go_at_call 21
      refine (equalr_S a3 b3 a2 b2 c3 d3 c2 d2 r vs ss _ K1.out K2.out (HV2.out.keep b1.out) (HR2.out.keep b1.out) hl1 hl2 HL3.out).mono ?_
      rintro e w2 ⟨rfl, hb2⟩
      have b2 := hide (b1.out.trans (hb2.mono b1.out.size))
      refine hK.out _ _ (HS.out _ b2.out) (fun hH2 => ?_)
      clear hK K hb2
      refine wpAnyH_take (i := 4) (oi := ({ dst := some 4, op := Op.assign (Operand.tmp 8), type := 4, pos := _, after := _, guard := _ } : Oper)) (v := ?_) rfl (by kernel_rfl) (by kernel_rfl) (by kernel_rfl) (fun _ _ _ h => h) (Or.inl ⟨by rfl, ?_⟩) (by assumption) ?_
      rotate_left
      · (intro wz hSw; (try dsimp only at hSw); go_simp; try with_reducible rfl)
      simp only [Act.put, List.setIfInBounds_toArray, List.set_cons_zero, List.set_cons_succ]
      refine wpAnyH_done (by kernel_rfl) ?_ _
      go_wp2
      go_ret
      exact ⟨by simp, BW.out.trans (b2.out.mono BW.out.size)⟩
/-- two that are the same -/
theorem same_S {v1 v2 : Value} {s : S} {w : World} (h1 : Rs w v1 s) (h2 : Rs w v2 s) (hl1 : s.vs.length ≤ 100000) (hl2 : s.ss.length ≤ 100000) (hl3 : ∀ (m : Nat) (l : List Int), s.ss[m]? = some l → l.length ≤ 100000) : Calls Try.prog 13 #[v1, v2] w fun e w' => e = .returned (.bool true) ∧ Below w.heap.size w w' := by
  obtain ⟨a, c, b, d, rfl, k1, k2, -⟩ := h1
  obtain ⟨a2, c2, b2, d2, rfl, k3, k4, -⟩ := h2
  exact same_S0 a b a2 b2 c d c2 d2 s.r s.vs s.ss w k1 k2 k3 k4 hl1 hl2 hl3
end Go.Proofs.Ytmhicllhjiglkaa
namespace Go.Proofs.Ytmhicllhjiglkaa
open Go.ChangeShapes Go.WideShapes Go.ChangeAt Go.RowKit Go.Deep
theorem Try.cells60 : Try.prog.cellsOf 60 = 9 := by kernel_rfl
theorem nine_of {cs : Array Value} (h : cs.size = 9) : ∃ c0 c1 c2 c3 c4 c5 c6 c7 c8, cs = #[c0, c1, c2, c3, c4, c5, c6, c7, c8] := by
  obtain ⟨l⟩ := cs
  match l, h with
  | [c0, c1, c2, c3, c4, c5, c6, c7, c8], _ => exact ⟨c0, c1, c2, c3, c4, c5, c6, c7, c8, rfl⟩
set_option maxRecDepth 100000 in
/-- a change that came in, opened -/
theorem open_change {H : Type} {enc : TypeId × Value → H} {W : World} {r : Reach} {b0 base : Nat} {sp : Nat → Bool} {held : Bool} {v : Value} {d : DataW H} {p : List MemPlace}
    (hval : Value.okWide Try.prog W r b0 60 v) (h : DataW.Trod enc Try.prog W base sp held 60 v d p) : ∃ (i : Int) (x : R) (s n : Int), v = .agg #[.int .i64 i, .int .i64 x.s, .bool x.k, .int .i64 x.n, .int .i64 x.lo, .int .i64 x.hi, .int .i64 x.p, .int .i64 s, .int .i64 n] ∧ i64 i ∧ i64 x.n ∧ i64 x.lo ∧ i64 x.hi := by
  obtain ⟨cs, rfl, h2⟩ := okWide_struct Try.underlying60 hval
  rw [Try.cells60] at h2
  obtain ⟨c0, c1, c2, c3, c4, c5, c6, c7, c8, rfl⟩ := nine_of h2
  obtain ⟨fuel, hf⟩ := h
  obtain ⟨xs, m, _, _, _, hl, hx⟩ := DataW.trod_struct Try.underlying60 hf
  have g0 : DataW.trod enc Try.prog W base sp held m 3 (([c0, c1, c2, c3, c4, c5, c6, c7, c8].drop 0).take (Try.prog.cellsOf 3)) = xs[0]? := hx 0 _ rfl
  have g1 : DataW.trod enc Try.prog W base sp held m 48 (([c0, c1, c2, c3, c4, c5, c6, c7, c8].drop 1).take (Try.prog.cellsOf 48)) = xs[1]? := hx 1 _ rfl
  have g2 : DataW.trod enc Try.prog W base sp held m 3 (([c0, c1, c2, c3, c4, c5, c6, c7, c8].drop 7).take (Try.prog.cellsOf 3)) = xs[2]? := hx 2 _ rfl
  have g3 : DataW.trod enc Try.prog W base sp held m 3 (([c0, c1, c2, c3, c4, c5, c6, c7, c8].drop 8).take (Try.prog.cellsOf 3)) = xs[3]? := hx 3 _ rfl
  rw [Try.cells3] at g0 g2 g3
  rw [Try.cells48] at g1
  simp only [List.drop, List.take] at g0 g1 g2 g3
  have hl2 : xs.length = 4 := hl
  cases e0 : xs[0]? with
  | none => have := List.getElem?_eq_none_iff.1 e0; omega
  | some y0 =>
    cases e1 : xs[1]? with
    | none => have := List.getElem?_eq_none_iff.1 e1; omega
    | some y1 =>
      cases e2 : xs[2]? with
      | none => have := List.getElem?_eq_none_iff.1 e2; omega
      | some y2 =>
        cases e3 : xs[3]? with
        | none => have := List.getElem?_eq_none_iff.1 e3; omega
        | some y3 =>
          rw [e0] at g0
          rw [e1] at g1
          rw [e2] at g2
          rw [e3] at g3
          obtain ⟨i, hi, _, wi⟩ := DataW.trod_int Try.underlying3 g0
          obtain ⟨y1a, y1b⟩ := y1
          obtain ⟨x, k0, k1, k2, k3, k4, k5, i1, i2, i3⟩ := val_cells g1
          obtain ⟨s, hs, _, _⟩ := DataW.trod_int Try.underlying3 g2
          obtain ⟨n, hn, _, _⟩ := DataW.trod_int Try.underlying3 g3
          simp at hi hs hn
          exact ⟨i, x, s, n, by rw [hi, k0, k1, k2, k3, k4, k5, hs, hn], i64_of_wf wi, i1, i2, i3⟩
theorem set_raw (x : VS) (r : Int) (u : V) (site : Int) : (setVS x r u site).raw = (if x.r = true ∧ 0 ≤ r ∧ r < ((x.us.map V.raw).length : Int) then ⟨x.r, (x.us.map V.raw).set r.toNat u.raw, x.ss.set r.toNat [site]⟩ else ⟨x.r, x.us.map V.raw, x.ss⟩) := by
  unfold setVS isReg
  rw [List.length_map]
  split
  · unfold VS.raw; dsimp only; rw [List.map_set]
  · rfl
theorem setJ9 {w : World} {v : Value} {x : VS} {n : Nat} (h : Rs w v x.raw) (k : VOk n x) (hn : n ≤ 5000) (r : Int) (u : V) (site : Int) : Calls Try.prog 29 #[v, .int .i64 r, aR u.raw, .int .i64 site] w fun e w' => ∃ v', e = .returned v' ∧ Below w.heap.size w w' ∧ Rs w' v' (setVS x r u site).raw := by
  obtain ⟨a, c, b, d, rfl, h1, h2, h3, h4, h5, h6⟩ := h
  have i3 := k.le
  have i1 := k.len
  rw [set_raw]
  exact set_S0 a b c d x.r (x.us.map V.raw) x.ss r u.raw site w h1 h2 h3 h5 (by rw [List.length_map]; omega) (by rw [List.length_map]; omega) (k.inner hn)
theorem setrJ9 {w : World} {v : Value} {x : VS} {n : Nat} (h : Rs w v x.raw) (k : VOk n x) (hn : n ≤ 5000) (r : Int) (u : V) (site : Int) : Calls Try.prog 30 #[v, .int .i64 r, aR u.raw, .int .i64 site] w fun e w' => ∃ v', e = .returned v' ∧ Below w.heap.size w w' ∧ Rs w' v' (setVS x r u site).raw := by
  obtain ⟨a, c, b, d, rfl, h1, h2, h3, h4, h5, h6⟩ := h
  have i3 := k.le
  have i1 := k.len
  rw [set_raw]
  exact setr_S0 a b c d x.r (x.us.map V.raw) x.ss r u.raw site w h1 h2 h3 h5 (by rw [List.length_map]; omega) (by rw [List.length_map]; omega) (k.inner hn)
/-- sites that lie low -/
def Lim9 (x : VS) : Prop := ∀ l ∈ x.ss, ∀ y ∈ l, (0 : Int) ≤ y ∧ y < 5000
theorem Lim9.tog {x y : VS} (op : V → V → V) (hx : Lim9 x) (hy : Lim9 y) : Lim9 (togV op x y) := by
  unfold togV
  split
  · exact hy
  · split
    · exact hx
    · exact zip_mem (P := fun l => ∀ y ∈ l, (0 : Int) ≤ y ∧ y < 5000) uniL _ _ (fun l hl k hk z hz => by rcases (uni_mem l k z).1 hz with t | t; exact hx l hl z t; exact hy k hk z t)
theorem shiftJ9 {w : World} {v : Value} {x : VS} {n : Nat} (h : Rs w v x.raw) (k : VOk n x) (hn : n ≤ 5000) (hl : Lim9 x) (m : Int) (h0 : 0 ≤ m) (hm : m ≤ 4000) : Calls Try.prog 31 #[v, .int .i64 m] w fun e w' => ∃ v', e = .returned v' ∧ Below w.heap.size w w' ∧ Rs w' v' (shiftVS x m).raw := by
  obtain ⟨a, c, b, d, rfl, h1, h2, h3, h4, h5, h6⟩ := h
  have i3 := k.le
  have i1 := k.len
  exact shift_S0 a b c d x.r (x.us.map V.raw) x.ss m w h1 h2 h3 h5 (by rw [List.length_map]; omega) (by omega) (k.inner hn) h0 hm hl
theorem shiftrJ9 {w : World} {v : Value} {x : VS} {n : Nat} (h : Rs w v x.raw) (k : VOk n x) (hn : n ≤ 5000) (hl : Lim9 x) (m : Int) (h0 : 0 ≤ m) (hm : m ≤ 4000) : Calls Try.prog 32 #[v, .int .i64 m] w fun e w' => ∃ v', e = .returned v' ∧ Below w.heap.size w w' ∧ Rs w' v' (shiftVS x m).raw := by
  obtain ⟨a, c, b, d, rfl, h1, h2, h3, h4, h5, h6⟩ := h
  have i3 := k.le
  have i1 := k.len
  exact shiftr_S0 a b c d x.r (x.us.map V.raw) x.ss m w h1 h2 h3 h5 (by rw [List.length_map]; omega) (by omega) (k.inner hn) h0 hm hl
theorem branchJ9 {w : World} {v : Value} {x : VS} {n : Nat} (h : Rs w v x.raw) (k : VOk n x) (hn : n ≤ 5000) (r : Int) (yes : Bool) : Calls Try.prog 33 #[v, .int .i64 r, .bool yes] w fun e w' => ∃ v', e = .returned v' ∧ Below w.heap.size w w' ∧ Rs w' v' (branchVS x r yes).raw := by
  obtain ⟨a, c, b, d, rfl, h1, h2, h3, h4, h5, h6⟩ := h
  have i3 := k.le
  have i1 := k.len
  have t := branch_S0 a b c d x.r x.us x.ss r yes w h1 h2 (by rw [← List.length_map (f := V.raw)]; exact h3) h5 (by omega) i1 (k.inner hn)
  rw [← List.length_map (f := V.raw)] at t
  exact t
theorem branchrJ9 {w : World} {v : Value} {x : VS} {n : Nat} (h : Rs w v x.raw) (k : VOk n x) (hn : n ≤ 5000) (r : Int) (yes : Bool) : Calls Try.prog 34 #[v, .int .i64 r, .bool yes] w fun e w' => ∃ v', e = .returned v' ∧ Below w.heap.size w w' ∧ Rs w' v' (branchVS x r yes).raw := by
  obtain ⟨a, c, b, d, rfl, h1, h2, h3, h4, h5, h6⟩ := h
  have i3 := k.le
  have i1 := k.len
  have t := branchr_S0 a b c d x.r x.us x.ss r yes w h1 h2 (by rw [← List.length_map (f := V.raw)]; exact h3) h5 (by omega) i1 (k.inner hn)
  rw [← List.length_map (f := V.raw)] at t
  exact t
theorem zip_take9 {α β γ : Type} (f : α → β → γ) : ∀ (a : List α) (b : List β), List.zipWith f a (b.take a.length) = List.zipWith f a b := by
  intro a
  induction a with
  | nil => intro b; rfl
  | cons x s ih => intro b; cases b with
    | nil => rfl
    | cons y t => simp only [List.length_cons, List.take_succ_cons, List.zipWith_cons_cons, ih t]
/-- as long, so within -/
theorem within_tog9 {n m : Nat} {x y : VS} (hx : VOk n x) (hy : VOk m y) (hl : (togV joinV x y).us.length = x.us.length) : withinVS x (togV joinV x y) = true := by
  cases h1 : x.r
  · exact within_no h1
  · cases h2 : y.r
    · have e : togV joinV x y = x := by unfold togV; simp [h1, h2]
      rw [e]
      exact within_refl hx
    · have e : togV joinV x y = togV joinV x ⟨true, y.us.take x.us.length, y.ss.take x.ss.length⟩ := by
        unfold togV
        simp only [h1, h2, zip_take9, Bool.true_eq_false, if_false]
      have hle : x.us.length ≤ y.us.length := by
        unfold togV at hl
        simp only [h1, h2, Bool.true_eq_false, if_false, List.length_zipWith] at hl
        omega
      have hx2 := hx.len
      have hy2 := hy.len
      have hy3 := hy.le
      have hx3 := hx.le
      rw [e]
      refine (within_join (m := m) hx ⟨?_, ?_, fun u hu => hy.ok u (List.mem_of_mem_take hu), fun l hl => hy.up l (List.mem_of_mem_take hl), fun e => by cases e⟩ ?_).1
      · dsimp only; rw [List.length_take, List.length_take]; omega
      · dsimp only; rw [List.length_take]; omega
      · dsimp only; rw [List.length_take]; omega
theorem joinK9 {w : World} {v1 v2 : Value} {x y : VS} {n m : Nat} (h1 : Rs w v1 x.raw) (h2 : Rs w v2 y.raw) (k1 : VOk n x) (k2 : VOk m y) (hn : n ≤ 5000) (hm : m ≤ 5000) :
    Calls Try.prog 14 #[v1, v2] w fun e w' => ∃ v, e = .returned v ∧ Below w.heap.size w w' ∧ Rs w' v (togV joinV x y).raw := by
  refine (join_S h1 h2 k1 k2 hn hm).mono ?_
  rintro e w' ⟨v, rfl, hR, hB⟩
  exact ⟨v, rfl, hB, hR.rs⟩
theorem sameK9 {w : World} {v1 v2 : Value} {x : VS} {n : Nat} (h1 : Rs w v1 x.raw) (h2 : Rs w v2 x.raw) (k : VOk n x) (hn : n ≤ 5000) : Calls Try.prog 13 #[v1, v2] w fun e w' => e = .returned (.bool true) ∧ Below w.heap.size w w' := by
  have i3 := k.le
  have i1 := k.len
  exact same_S h1 h2 (by unfold VS.raw; dsimp only; rw [List.length_map]; omega) (by unfold VS.raw; dsimp only; omega) (k.inner hn)
end Go.Proofs.Ytmhicllhjiglkaa
namespace Go.Proofs.Ytmhicllhjiglkaa
open Go.RowKit
/-- two boxes that were made, and all else below M as in W -/
structure Tw (N M : Nat) (w0 W w : World) (p q : Nat) (r0 : Bool) (a0 b0 : Value) (r1 : Bool) (a1 b1 : Value) : Prop where
  b0 : Bs w p r0 a0 b0
  f0 : Fs w p
  b1 : Bs w q r1 a1 b1
  f1 : Fs w q
  bel : Below N w0 w
  pN : N ≤ p
  qN : N ≤ q
  pM : p < M
  qM : q < M
  ne : p ≠ q
  le : M ≤ w.heap.size
  fr : ∀ k, k < M → k ≠ p → k ≠ q → w.heap[k]? = W.heap[k]?
theorem Tw.keep {N M : Nat} {w0 W w w' : World} {p q : Nat} {r0 : Bool} {a0 b0 : Value} {r1 : Bool} {a1 b1 : Value} (h : Tw N M w0 W w p q r0 a0 b0 r1 a1 b1) (hb : Below w.heap.size w w') : Tw N M w0 W w' p q r0 a0 b0 r1 a1 b1 :=
  ⟨h.b0.keep hb, h.f0.of (hb.block _ h.b0.lt), h.b1.keep hb, h.f1.of (hb.block _ h.b1.lt), h.bel.trans (hb.mono (Nat.le_trans (Nat.le_trans h.pN (Nat.le_of_lt h.pM)) h.le)), h.pN, h.qN, h.pM, h.qM, h.ne, Nat.le_trans h.le hb.size, fun k hk h1 h2 => (hb.block k (Nat.lt_of_lt_of_le hk h.le)).trans (h.fr k hk h1 h2)⟩
theorem Tw.putp {N M : Nat} {w0 W w : World} {p q : Nat} {r0 : Bool} {a0 b0 : Value} {r1 : Bool} {a1 b1 : Value} (h : Tw N M w0 W w p q r0 a0 b0 r1 a1 b1) (r : Bool) (a b : Value) : Tw N M w0 W (st3 w p r a b) p q r a b r1 a1 b1 :=
  ⟨h.b0.put3 _ _ _, h.f0.put3 _ _ _, h.b1.far3 (fun e => h.ne e.symm) _ _ _, h.f1.put3 _ _ _, st3_below h.bel p h.pN _ _ _, h.pN, h.qN, h.pM, h.qM, h.ne, by rw [st3_size]; exact h.le, fun k hk h1 h2 => (st3_block w p r a b k h1).trans (h.fr k hk h1 h2)⟩
theorem Tw.putq {N M : Nat} {w0 W w : World} {p q : Nat} {r0 : Bool} {a0 b0 : Value} {r1 : Bool} {a1 b1 : Value} (h : Tw N M w0 W w p q r0 a0 b0 r1 a1 b1) (r : Bool) (a b : Value) : Tw N M w0 W (st3 w q r a b) p q r0 a0 b0 r a b :=
  ⟨h.b0.far3 h.ne _ _ _, h.f0.put3 _ _ _, h.b1.put3 _ _ _, h.f1.put3 _ _ _, st3_below h.bel q h.qN _ _ _, h.pN, h.qN, h.pM, h.qM, h.ne, by rw [st3_size]; exact h.le, fun k hk h1 h2 => (st3_block w q r a b k h2).trans (h.fr k hk h1 h2)⟩
/-- a State that is made Right, whose rows lie from block M on -/
def Pre9 (w : World) (M : Nat) (v : Value) : Prop := ∃ (r : Bool) (a : Option Addr) (c : Nat) (b : Option Addr) (d : Nat) (x : VS), v = .agg #[.bool r, .slice a x.us.length c, .slice b x.ss.length d] ∧ r = x.r ∧ Rn w M v x.raw ∧ SOk x.raw x.us 6 70
theorem Pre9.keep {w w' : World} {M : Nat} {v : Value} (h : Pre9 w M v) (hb : Below w.heap.size w w') : Pre9 w' M v := by
  obtain ⟨r, a, c, b, d, x, h1, h2, h3, h4⟩ := h
  exact ⟨r, a, c, b, d, x, h1, h2, h3.keep hb, h4⟩
theorem fix_pre9 {w0 : World} {a b : Option Addr} {c d : Nat} {r : Bool} {vs : List R} {ss : List (List Int)} (hv : RV w0 a vs) (hs : RR w0 b ss) (hvi : ∀ (m : Nat) (x : R), vs[m]? = some x → i64 x.n ∧ i64 x.lo ∧ i64 x.hi) (M : Nat) (w : World) (h : Below w0.heap.size w0 w) (hM : M ≤ w.heap.size) :
    Calls Try.prog 10 #[.agg #[.bool r, .slice a vs.length c, .slice b ss.length d]] w fun e w' => ∃ v, e = .returned v ∧ Below w.heap.size w w' ∧ Pre9 w' M v := by
  refine (fix_any a b c d r vs ss w (hv.keep h) (hs.keep h) hvi).mono ?_
  rintro e w'' ⟨v, rfl, hB, s, hR, us, hO⟩
  obtain ⟨a', c', b', d', e', -⟩ := id hR
  have e1 := (hO.vok (by omega)).1
  refine ⟨v, rfl, hB, s.r, a', c', b', d', ⟨s.r, us, s.ss⟩, ?_, rfl, ?_, ?_⟩
  · rw [e', hO.vs, List.length_map]
  · rw [← e1]; exact hR.mono hM
  · rw [← e1]; exact hO
end Go.Proofs.Ytmhicllhjiglkaa
namespace Go.Proofs.Ytmhicllhjiglkaa
open Go.RowKit
abbrev fxAct6 (X0 X1 X2 X5 : Value) (p q : Nat) (y13 y14 y15 y16 : Value) : Act := { tmps := #[X0, X1, X2, .pointer (some ⟨p, 0, none⟩), .pointer (some ⟨q, 0, none⟩), X5, .bool false, undef, undef, undef, undef, undef, undef, y13, y14, y15, y16, undef, undef, undef, undef, undef, undef, undef, undef, undef, undef, undef, undef, undef, undef, undef, undef, undef, undef, undef, undef, undef, undef, undef, undef, undef, undef, undef, undef, undef, undef, undef, undef, undef, undef, undef, undef, undef, undef, undef, undef, undef, undef, undef, undef, undef, undef, undef, undef, undef, undef, undef, undef, undef, undef, undef, undef, undef, undef, undef, undef, undef, undef, undef, undef, undef, undef, undef, undef, undef, undef, undef, undef, undef, undef, undef, undef, undef, undef, undef, undef, undef, undef, undef, undef, undef, undef, undef, undef, undef, undef, undef, undef, undef, undef, undef, undef, undef, undef, undef, undef, undef, undef, undef, undef, undef, undef, undef, undef, undef, undef, undef, undef, undef, undef, undef, undef, undef, undef, undef, undef, undef, undef, undef, undef, undef, undef, undef, undef, undef], defers := [] }
set_option maxRecDepth 100000 in
set_option maxHeartbeats 8000000 in
theorem fx6 {Q0 : Exit → Act → World → Prop} (X0 X1 X2 X5 : Value) (N M : Nat) (w0 W : World) (p q : Nat) (r0 : Bool) (a0 b0 : Value) (r1 : Bool) (a1 b1 : Value) (cA : ∀ w, Below N w0 w → M ≤ w.heap.size → Calls Try.prog 10 #[.agg #[.bool r0, a0, b0]] w fun e w' => ∃ v, e = .returned v ∧ Below w.heap.size w w' ∧ Pre9 w' M v) (cB : ∀ w, Below N w0 w → M ≤ w.heap.size → Calls Try.prog 10 #[.agg #[.bool r1, a1, b1]] w fun e w' => ∃ v, e = .returned v ∧ Below w.heap.size w w' ∧ Pre9 w' M v)
    (hQ : ∀ (v : World) (q0 : Bool) (v0 s0 : Value) (q1 : Bool) (v1 s1 : Value) (x0 x1 : VS), Tw N M w0 W v p q q0 v0 s0 q1 v1 s1 → Rn v M (.agg #[.bool q0, v0, s0]) x0.raw → Rn v M (.agg #[.bool q1, v1, s1]) x1.raw → SOk x0.raw x0.us 6 70 → SOk x1.raw x1.us 6 70 → Q0 .normal (fxAct6 X0 X1 X2 X5 p q (.agg #[.bool r0, a0, b0]) (.agg #[.bool q0, v0, s0]) (.agg #[.bool r1, a1, b1]) (.agg #[.bool q1, v1, s1])) v)
    (V : World) (hT : Tw N M w0 W V p q r0 a0 b0 r1 a1 b1) : (Code.region 1 #[{ dst := some 13, op := Op.load 25 (Operand.tmp 3), type := 25, pos := "law.go:104", after := #[], guard := none }, { dst := some 14, op := Op.call { callee := Callee.value (Operand.func 10), args := #[Operand.tmp 13], argTypes := #[25] }, type := 25, pos := "law.go:104", after := #[{ on := 0, ground := Ground.data }], guard := none }, { dst := some 15, op := Op.load 25 (Operand.tmp 4), type := 25, pos := "law.go:104", after := #[], guard := none }, { dst := some 16, op := Op.call { callee := Callee.value (Operand.func 10), args := #[Operand.tmp 15], argTypes := #[25] }, type := 25, pos := "law.go:104", after := #[{ on := 2, ground := Ground.data }, { on := 1, ground := Ground.chain }], guard := none }, { dst := none, op := Op.store 25 (Operand.tmp 3) (Operand.tmp 14), type := 0, pos := "law.go:104", after := #[{ on := 1, ground := Ground.data }, { on := 3, ground := Ground.chain }, { on := 0, ground := Ground.phase }, { on := 1, ground := Ground.phase }, { on := 2, ground := Ground.textOnly Departure.lateStores }, { on := 3, ground := Ground.textOnly Departure.lateStoresUnsure }], guard := none }, { dst := none, op := Op.store 25 (Operand.tmp 4) (Operand.tmp 16), type := 0, pos := "law.go:104", after := #[{ on := 3, ground := Ground.data }, { on := 4, ground := Ground.chain }, { on := 0, ground := Ground.phase }, { on := 1, ground := Ground.phase }, { on := 2, ground := Ground.phase }, { on := 3, ground := Ground.phase }, { on := 4, ground := Ground.phase }], guard := none }] true).wp Try.prog Q0 (fxAct6 X0 X1 X2 X5 p q undef undef undef undef) V := by
  dsimp only [fxAct6]
  refine wp_region_held_drew (S := fun w' => True) (by kernel_rfl) trivial (fun hH0 => ?_)
  obtain ⟨w0, hw0⟩ : ∃ w0, w0 = V.drew := ⟨_, rfl⟩
  (try rw [← hw0] at hH0)
  rw [← hw0]
  have T0 := hT.keep (Below.refl _ _).drew
  rw [← hw0] at T0
  clear hw0
  refine wpAnyH_ready (rs := [0, 2]) (by kernel_rfl) (by simp) ?_
  refine AllReadyH.cons (o := ({ dst := some 13, op := Op.load 25 (Operand.tmp 3), type := 25, pos := _, after := _, guard := _ } : Oper)) rfl (fun K hK => ?_) (AllReadyH.cons (o := ({ dst := some 15, op := Op.load 25 (Operand.tmp 4), type := 25, pos := _, after := _, guard := _ } : Oper)) rfl (fun K hK => ?_) AllReadyH.nil)
  · have zb := T0.b0
    have z0 := zb.c0
    have z1 := zb.c1
    have z2 := zb.c2
    go_simp
    refine hK.out _ _ trivial (fun _ => ?_)
    clear hK K zb z0 z1 z2
    refine wpAnyH_ready (rs := [1, 2]) (by kernel_rfl) (by simp) ?_
    refine AllReadyH.cons (o := ({ dst := some 14, op := Op.call { callee := Callee.value (Operand.func 10), args := #[Operand.tmp 13], argTypes := #[25] }, type := 25, pos := _, after := _, guard := _ } : Oper)) rfl (fun K hK => ?_) (AllReadyH.cons (o := ({ dst := some 15, op := Op.load 25 (Operand.tmp 4), type := 25, pos := _, after := _, guard := _ } : Oper)) rfl (fun K hK => ?_) AllReadyH.nil)
    · go_simp
      go_at_call 10
      refine (cA _ T0.bel T0.le).mono ?_
      rintro e w1 ⟨e0, rfl, hb1, P0_1⟩
      have T1 := T0.keep hb1
      refine hK.out _ _ trivial (fun _ => ?_)
      clear hK K
      refine wpAnyH_ready (rs := [2]) (by kernel_rfl) (by simp) ?_
      refine AllReadyH.cons (o := ({ dst := some 15, op := Op.load 25 (Operand.tmp 4), type := 25, pos := _, after := _, guard := _ } : Oper)) rfl (fun K hK => ?_) AllReadyH.nil
      · have zb := T1.b1
        have z0 := zb.c0
        have z1 := zb.c1
        have z2 := zb.c2
        go_simp
        refine hK.out _ _ trivial (fun _ => ?_)
        clear hK K zb z0 z1 z2
        refine wpAnyH_ready (rs := [3]) (by kernel_rfl) (by simp) ?_
        refine AllReadyH.cons (o := ({ dst := some 16, op := Op.call { callee := Callee.value (Operand.func 10), args := #[Operand.tmp 15], argTypes := #[25] }, type := 25, pos := _, after := _, guard := _ } : Oper)) rfl (fun K hK => ?_) AllReadyH.nil
        · go_simp
          go_at_call 10
          refine (cB _ T1.bel T1.le).mono ?_
          rintro e w2 ⟨e1, rfl, hb2, P1_2⟩
          have T2 := T1.keep hb2
          have P0_2 := P0_1.keep hb2
          refine hK.out _ _ trivial (fun _ => ?_)
          clear hK K
          refine wpAnyH_ready (rs := [4]) (by kernel_rfl) (by simp) ?_
          refine AllReadyH.cons (o := ({ dst := none, op := Op.store 25 (Operand.tmp 3) (Operand.tmp 14), type := 0, pos := _, after := _, guard := _ } : Oper)) rfl (fun K hK => ?_) AllReadyH.nil
          · obtain ⟨q0, ya0, yc0, yb0, yd0, x0, rfl, -, R0, O0⟩ := P0_2
            obtain ⟨q1, ya1, yc1, yb1, yd1, x1, rfl, -, R1, O1⟩ := P1_2
            have zb := T2.b0
            have zf := T2.f0
            have z0 := zb.c0
            have z1 := zb.c1
            have z2 := zb.c2
            have y0 := zf.f0
            have y1 := zf.f1
            have y2 := zf.f2
            go_simp
            have U0 := T2.putp q0 (.slice ya0 x0.us.length yc0) (.slice yb0 x0.ss.length yd0)
            have R0 := R0.st3 T2.pM q0 (.slice ya0 x0.us.length yc0) (.slice yb0 x0.ss.length yd0)
            have R1 := R1.st3 T2.pM q0 (.slice ya0 x0.us.length yc0) (.slice yb0 x0.ss.length yd0)
            refine hK.out _ _ trivial (fun _ => ?_)
            clear hK K zb zf z0 z1 z2 y0 y1 y2
            unfold st3 at U0 R0 R1
            obtain ⟨u0, hu0⟩ : ∃ z9, z9 = ((w2.setCell ⟨p, 0, none⟩ (.bool q0)).setCell ⟨p, 1, none⟩ (.slice ya0 x0.us.length yc0)).setCell ⟨p, 2, none⟩ (.slice yb0 x0.ss.length yd0) := ⟨_, rfl⟩
            rw [← hu0] at U0 R0 R1 ⊢
            clear hu0
            refine wpAnyH_ready (rs := [5]) (by kernel_rfl) (by simp) ?_
            refine AllReadyH.cons (o := ({ dst := none, op := Op.store 25 (Operand.tmp 4) (Operand.tmp 16), type := 0, pos := _, after := _, guard := _ } : Oper)) rfl (fun K hK => ?_) AllReadyH.nil
            · have zb := U0.b1
              have zf := U0.f1
              have z0 := zb.c0
              have z1 := zb.c1
              have z2 := zb.c2
              have y0 := zf.f0
              have y1 := zf.f1
              have y2 := zf.f2
              go_simp
              have U1 := U0.putq q1 (.slice ya1 x1.us.length yc1) (.slice yb1 x1.ss.length yd1)
              have R0 := R0.st3 U0.qM q1 (.slice ya1 x1.us.length yc1) (.slice yb1 x1.ss.length yd1)
              have R1 := R1.st3 U0.qM q1 (.slice ya1 x1.us.length yc1) (.slice yb1 x1.ss.length yd1)
              refine hK.out _ _ trivial (fun _ => ?_)
              clear hK K zb zf z0 z1 z2 y0 y1 y2
              unfold st3 at U1 R0 R1
              obtain ⟨u1, hu1⟩ : ∃ z9, z9 = ((u0.setCell ⟨q, 0, none⟩ (.bool q1)).setCell ⟨q, 1, none⟩ (.slice ya1 x1.us.length yc1)).setCell ⟨q, 2, none⟩ (.slice yb1 x1.ss.length yd1) := ⟨_, rfl⟩
              rw [← hu1] at U1 R0 R1 ⊢
              clear hu1
              refine wpAnyH_done (by kernel_rfl) ?_ _
              exact hQ _ _ _ _ _ _ _ x0 x1 U1 R0 R1 O0 O1
    · have zb := T0.b1
      have z0 := zb.c0
      have z1 := zb.c1
      have z2 := zb.c2
      go_simp
      refine hK.out _ _ trivial (fun _ => ?_)
      clear hK K zb z0 z1 z2
      refine wpAnyH_ready (rs := [1]) (by kernel_rfl) (by simp) ?_
      refine AllReadyH.cons (o := ({ dst := some 14, op := Op.call { callee := Callee.value (Operand.func 10), args := #[Operand.tmp 13], argTypes := #[25] }, type := 25, pos := _, after := _, guard := _ } : Oper)) rfl (fun K hK => ?_) AllReadyH.nil
      · go_simp
        go_at_call 10
        refine (cA _ T0.bel T0.le).mono ?_
        rintro e w1 ⟨e0, rfl, hb1, P0_1⟩
        have T1 := T0.keep hb1
        refine hK.out _ _ trivial (fun _ => ?_)
        clear hK K
        refine wpAnyH_ready (rs := [3]) (by kernel_rfl) (by simp) ?_
        refine AllReadyH.cons (o := ({ dst := some 16, op := Op.call { callee := Callee.value (Operand.func 10), args := #[Operand.tmp 15], argTypes := #[25] }, type := 25, pos := _, after := _, guard := _ } : Oper)) rfl (fun K hK => ?_) AllReadyH.nil
        · go_simp
          go_at_call 10
          refine (cB _ T1.bel T1.le).mono ?_
          rintro e w2 ⟨e1, rfl, hb2, P1_2⟩
          have T2 := T1.keep hb2
          have P0_2 := P0_1.keep hb2
          refine hK.out _ _ trivial (fun _ => ?_)
          clear hK K
          refine wpAnyH_ready (rs := [4]) (by kernel_rfl) (by simp) ?_
          refine AllReadyH.cons (o := ({ dst := none, op := Op.store 25 (Operand.tmp 3) (Operand.tmp 14), type := 0, pos := _, after := _, guard := _ } : Oper)) rfl (fun K hK => ?_) AllReadyH.nil
          · obtain ⟨q0, ya0, yc0, yb0, yd0, x0, rfl, -, R0, O0⟩ := P0_2
            obtain ⟨q1, ya1, yc1, yb1, yd1, x1, rfl, -, R1, O1⟩ := P1_2
            have zb := T2.b0
            have zf := T2.f0
            have z0 := zb.c0
            have z1 := zb.c1
            have z2 := zb.c2
            have y0 := zf.f0
            have y1 := zf.f1
            have y2 := zf.f2
            go_simp
            have U0 := T2.putp q0 (.slice ya0 x0.us.length yc0) (.slice yb0 x0.ss.length yd0)
            have R0 := R0.st3 T2.pM q0 (.slice ya0 x0.us.length yc0) (.slice yb0 x0.ss.length yd0)
            have R1 := R1.st3 T2.pM q0 (.slice ya0 x0.us.length yc0) (.slice yb0 x0.ss.length yd0)
            refine hK.out _ _ trivial (fun _ => ?_)
            clear hK K zb zf z0 z1 z2 y0 y1 y2
            unfold st3 at U0 R0 R1
            obtain ⟨u0, hu0⟩ : ∃ z9, z9 = ((w2.setCell ⟨p, 0, none⟩ (.bool q0)).setCell ⟨p, 1, none⟩ (.slice ya0 x0.us.length yc0)).setCell ⟨p, 2, none⟩ (.slice yb0 x0.ss.length yd0) := ⟨_, rfl⟩
            rw [← hu0] at U0 R0 R1 ⊢
            clear hu0
            refine wpAnyH_ready (rs := [5]) (by kernel_rfl) (by simp) ?_
            refine AllReadyH.cons (o := ({ dst := none, op := Op.store 25 (Operand.tmp 4) (Operand.tmp 16), type := 0, pos := _, after := _, guard := _ } : Oper)) rfl (fun K hK => ?_) AllReadyH.nil
            · have zb := U0.b1
              have zf := U0.f1
              have z0 := zb.c0
              have z1 := zb.c1
              have z2 := zb.c2
              have y0 := zf.f0
              have y1 := zf.f1
              have y2 := zf.f2
              go_simp
              have U1 := U0.putq q1 (.slice ya1 x1.us.length yc1) (.slice yb1 x1.ss.length yd1)
              have R0 := R0.st3 U0.qM q1 (.slice ya1 x1.us.length yc1) (.slice yb1 x1.ss.length yd1)
              have R1 := R1.st3 U0.qM q1 (.slice ya1 x1.us.length yc1) (.slice yb1 x1.ss.length yd1)
              refine hK.out _ _ trivial (fun _ => ?_)
              clear hK K zb zf z0 z1 z2 y0 y1 y2
              unfold st3 at U1 R0 R1
              obtain ⟨u1, hu1⟩ : ∃ z9, z9 = ((u0.setCell ⟨q, 0, none⟩ (.bool q1)).setCell ⟨q, 1, none⟩ (.slice ya1 x1.us.length yc1)).setCell ⟨q, 2, none⟩ (.slice yb1 x1.ss.length yd1) := ⟨_, rfl⟩
              rw [← hu1] at U1 R0 R1 ⊢
              clear hu1
              refine wpAnyH_done (by kernel_rfl) ?_ _
              exact hQ _ _ _ _ _ _ _ x0 x1 U1 R0 R1 O0 O1
  · have zb := T0.b1
    have z0 := zb.c0
    have z1 := zb.c1
    have z2 := zb.c2
    go_simp
    refine hK.out _ _ trivial (fun _ => ?_)
    clear hK K zb z0 z1 z2
    refine wpAnyH_ready (rs := [0]) (by kernel_rfl) (by simp) ?_
    refine AllReadyH.cons (o := ({ dst := some 13, op := Op.load 25 (Operand.tmp 3), type := 25, pos := _, after := _, guard := _ } : Oper)) rfl (fun K hK => ?_) AllReadyH.nil
    · have zb := T0.b0
      have z0 := zb.c0
      have z1 := zb.c1
      have z2 := zb.c2
      go_simp
      refine hK.out _ _ trivial (fun _ => ?_)
      clear hK K zb z0 z1 z2
      refine wpAnyH_ready (rs := [1]) (by kernel_rfl) (by simp) ?_
      refine AllReadyH.cons (o := ({ dst := some 14, op := Op.call { callee := Callee.value (Operand.func 10), args := #[Operand.tmp 13], argTypes := #[25] }, type := 25, pos := _, after := _, guard := _ } : Oper)) rfl (fun K hK => ?_) AllReadyH.nil
      · go_simp
        go_at_call 10
        refine (cA _ T0.bel T0.le).mono ?_
        rintro e w1 ⟨e0, rfl, hb1, P0_1⟩
        have T1 := T0.keep hb1
        refine hK.out _ _ trivial (fun _ => ?_)
        clear hK K
        refine wpAnyH_ready (rs := [3]) (by kernel_rfl) (by simp) ?_
        refine AllReadyH.cons (o := ({ dst := some 16, op := Op.call { callee := Callee.value (Operand.func 10), args := #[Operand.tmp 15], argTypes := #[25] }, type := 25, pos := _, after := _, guard := _ } : Oper)) rfl (fun K hK => ?_) AllReadyH.nil
        · go_simp
          go_at_call 10
          refine (cB _ T1.bel T1.le).mono ?_
          rintro e w2 ⟨e1, rfl, hb2, P1_2⟩
          have T2 := T1.keep hb2
          have P0_2 := P0_1.keep hb2
          refine hK.out _ _ trivial (fun _ => ?_)
          clear hK K
          refine wpAnyH_ready (rs := [4]) (by kernel_rfl) (by simp) ?_
          refine AllReadyH.cons (o := ({ dst := none, op := Op.store 25 (Operand.tmp 3) (Operand.tmp 14), type := 0, pos := _, after := _, guard := _ } : Oper)) rfl (fun K hK => ?_) AllReadyH.nil
          · obtain ⟨q0, ya0, yc0, yb0, yd0, x0, rfl, -, R0, O0⟩ := P0_2
            obtain ⟨q1, ya1, yc1, yb1, yd1, x1, rfl, -, R1, O1⟩ := P1_2
            have zb := T2.b0
            have zf := T2.f0
            have z0 := zb.c0
            have z1 := zb.c1
            have z2 := zb.c2
            have y0 := zf.f0
            have y1 := zf.f1
            have y2 := zf.f2
            go_simp
            have U0 := T2.putp q0 (.slice ya0 x0.us.length yc0) (.slice yb0 x0.ss.length yd0)
            have R0 := R0.st3 T2.pM q0 (.slice ya0 x0.us.length yc0) (.slice yb0 x0.ss.length yd0)
            have R1 := R1.st3 T2.pM q0 (.slice ya0 x0.us.length yc0) (.slice yb0 x0.ss.length yd0)
            refine hK.out _ _ trivial (fun _ => ?_)
            clear hK K zb zf z0 z1 z2 y0 y1 y2
            unfold st3 at U0 R0 R1
            obtain ⟨u0, hu0⟩ : ∃ z9, z9 = ((w2.setCell ⟨p, 0, none⟩ (.bool q0)).setCell ⟨p, 1, none⟩ (.slice ya0 x0.us.length yc0)).setCell ⟨p, 2, none⟩ (.slice yb0 x0.ss.length yd0) := ⟨_, rfl⟩
            rw [← hu0] at U0 R0 R1 ⊢
            clear hu0
            refine wpAnyH_ready (rs := [5]) (by kernel_rfl) (by simp) ?_
            refine AllReadyH.cons (o := ({ dst := none, op := Op.store 25 (Operand.tmp 4) (Operand.tmp 16), type := 0, pos := _, after := _, guard := _ } : Oper)) rfl (fun K hK => ?_) AllReadyH.nil
            · have zb := U0.b1
              have zf := U0.f1
              have z0 := zb.c0
              have z1 := zb.c1
              have z2 := zb.c2
              have y0 := zf.f0
              have y1 := zf.f1
              have y2 := zf.f2
              go_simp
              have U1 := U0.putq q1 (.slice ya1 x1.us.length yc1) (.slice yb1 x1.ss.length yd1)
              have R0 := R0.st3 U0.qM q1 (.slice ya1 x1.us.length yc1) (.slice yb1 x1.ss.length yd1)
              have R1 := R1.st3 U0.qM q1 (.slice ya1 x1.us.length yc1) (.slice yb1 x1.ss.length yd1)
              refine hK.out _ _ trivial (fun _ => ?_)
              clear hK K zb zf z0 z1 z2 y0 y1 y2
              unfold st3 at U1 R0 R1
              obtain ⟨u1, hu1⟩ : ∃ z9, z9 = ((u0.setCell ⟨q, 0, none⟩ (.bool q1)).setCell ⟨q, 1, none⟩ (.slice ya1 x1.us.length yc1)).setCell ⟨q, 2, none⟩ (.slice yb1 x1.ss.length yd1) := ⟨_, rfl⟩
              rw [← hu1] at U1 R0 R1 ⊢
              clear hu1
              refine wpAnyH_done (by kernel_rfl) ?_ _
              exact hQ _ _ _ _ _ _ _ x0 x1 U1 R0 R1 O0 O1
end Go.Proofs.Ytmhicllhjiglkaa
