import Derived.Test.YtmhicllhjiglkaaG10
import Derived.Deep.RegionHeld3
import Derived.Test.YtmhicllhjiglkaaG08
namespace Go.Proofs.Ytmhicllhjiglkaa
open Go.RowKit
theorem wp_appVs9 {o : Oper} {a : Act} {K : Act → World → Prop} {Q : Exit → Act → World → Prop} (w1 : World) (B : Nat) (t T : TypeId) (ht : Try.prog.underlying t = some (.slice T)) (hI : (Try.prog.info? T).map (fun i => (i.zero, i.size, i.bytes)) = some (some zV, 6, 48)) (s x : Operand)
    (ho : o.op = .call { callee := .builtin .append, args := #[s, x], argTypes := #[t, t] })
    (v : Value) (vs : List R) (ys : List R) (ad : Addr) (c : Nat) (hO : OwV w1 B T v vs) (hY : RV w1 (some ad) ys) (hs : a.eval s = v) (hx : a.eval x = .slice (some ad) ys.length c) (hl : vs.length + ys.length ≤ 1000000) (hB : B ≤ w1.heap.size)
    (h : ∀ a' c' w', OwV w' B T (.slice a' (vs.length + ys.length) c') (vs ++ ys) → w1.grownBy w' v.ownBlock → K (a.put o.dst (.slice a' (vs.length + ys.length) c')) w') : o.wp Try.prog a w1 K Q := by
  obtain ⟨i0, hi, hz0, hz1, hz2⟩ := info_parts hI
  refine wp_append_own _ s x t ho B T i0 zV 6 48 ht hi hz0 hz1 hz2 rfl (by decide) v vs.length (VR vs) hs hO ad ys.length c (VR ys) hx (VR_len ys) ?_ (VR_one ys) ?_ ?_ ?_ ?_
  · intro j u hj
    have hjl : j < ys.length * 6 := by
      rcases Nat.lt_or_ge j (VR ys).length with t | t
      · rw [VR_len] at t; exact t
      · rw [List.getElem?_eq_none t] at hj; cases hj
    have hm : j / 6 < ys.length := by omega
    obtain ⟨b, of, e, h6⟩ := hY (j / 6) (ys[j / 6]) (by simp [hm])
    obtain rfl := Option.some.inj e
    rw [addr_none]
    have hx2 := VR_at (ys[j / 6]) (j % 6) (Nat.mod_lt _ (by omega)) ys (j / 6) (by simp [hm])
    have ej : j / 6 * 6 + j % 6 = j := by omega
    rw [ej, hj] at hx2
    have ea : of + j = of + j / 6 * 6 + j % 6 := by omega
    rw [ea]
    have h7 : j % 6 = 0 ∨ j % 6 = 1 ∨ j % 6 = 2 ∨ j % 6 = 3 ∨ j % 6 = 4 ∨ j % 6 = 5 := by omega
    rcases h7 with h7 | h7 | h7 | h7 | h7 | h7 <;> rw [h7] at hx2 ⊢ <;> simp at hx2 <;> subst hx2
    · exact h6.c0
    · exact h6.c1
    · exact h6.c2
    · exact h6.c3
    · exact h6.c4
    · exact h6.c5
  · unfold maxLen; omega
  · omega
  · exact hB
  · intro v' w' hown hgrow _
    have hT : OwV w' B T v' (vs ++ ys) := by
      unfold OwV
      rw [VR_append]
      simpa using hown
    obtain ⟨a', c', rfl, _⟩ := hT.slice
    simp only [List.length_append] at hT ⊢
    exact h a' c' w' hT hgrow
theorem wp_appVn {o : Oper} {a : Act} {K : Act → World → Prop} {Q : Exit → Act → World → Prop} (w1 : World) (B : Nat) (t T : TypeId) (ht : Try.prog.underlying t = some (.slice T)) (hI : (Try.prog.info? T).map (fun i => (i.zero, i.size, i.bytes)) = some (some zV, 6, 48)) (s x : Operand)
    (ho : o.op = .call { callee := .builtin .append, args := #[s, x], argTypes := #[t, t] })
    (v : Value) (ys : List R) (ad : Option Addr) (c : Nat) (hO : OwV w1 B T v []) (hY : RV w1 ad ys) (hn : ad = none → c = 0 ∧ ys = []) (hs : a.eval s = v) (hx : a.eval x = .slice ad ys.length c) (hl : ys.length ≤ 1000000) (hB : B ≤ w1.heap.size)
    (h : ∀ a' c' w', OwV w' B T (.slice a' ys.length c') ys → w1.grownBy w' v.ownBlock → K (a.put o.dst (.slice a' ys.length c')) w') : o.wp Try.prog a w1 K Q := by
  cases ad with
  | none =>
    obtain ⟨rfl, rfl⟩ := hn rfl
    obtain ⟨a', c', rfl, -, -⟩ := hO.slice
    obtain ⟨i0, hi, hz0, hz1, hz2⟩ := info_parts hI
    have hr := run_append_owned_none (P := Try.prog) (w := w1) B t o.type T i0 6 ht hi _ 0 (VR []) hO
    unfold Oper.wp execOp
    simp only [ho, resolve, invoke, builtin, Sem.run_bind, Sem.run_pure, Result.andThen_ok, List.map_toArray, List.map_cons, List.map_nil, hs, hx, List.length_nil]
    rw [List.length_nil] at hr
    rw [hr]
    exact h a' c' w1 hO ⟨rfl, rfl, rfl, Nat.le_refl _, fun _ _ _ => rfl⟩
  | some ad =>
    refine wp_appVs9 w1 B t T ht hI s x ho v [] ys ad c hO hY hs hx (by simpa using hl) hB fun a' c' w' h2 h3 => ?_
    simp only [List.length_nil, Nat.zero_add, List.nil_append] at h2 ⊢
    exact h a' c' w' h2 h3
set_option maxRecDepth 100000 in
set_option maxHeartbeats 8000000 in
theorem copyOr (a b : Option Addr) (c d : Nat) (r : Bool) (vs : List R) (ss : List (List Int)) (w : World) (hv : RV w a vs) (hs : RR w b ss) (hvc : vs.length ≤ c) (hva : a = none → c = 0) (hl1 : vs.length ≤ 100000) (hl2 : ss.length ≤ 100000) (hl3 : ∀ (m : Nat) (l : List Int), ss[m]? = some l → l.length ≤ 100000) :
    Calls Try.prog 68 #[.agg #[.bool r, .slice a vs.length c, .slice b ss.length d]] w fun e w' => ∃ v, e = .returned v ∧ Own3 w' w.heap.size 48 v ⟨r, vs, ss⟩ ∧ Below w.heap.size w w' := by
  have HVw := hide hv
  have HRw := hide hs
  have HL3 := hide hl3
  clear hv hs hl3
  go_enter Try.func68, Try.ntmps68
  go_upto_region 1 with fail
  go_name_world W hW
  obtain ⟨q1, h1⟩ : ∃ z9, z9 = w.heap.size + 1 := ⟨_, rfl⟩
  rw [← h1]
  obtain ⟨q0, h0⟩ : ∃ z9, z9 = w.heap.size := ⟨_, rfl⟩
  rw [← h0]
  obtain ⟨B0, -, B1, F1, u⟩ := boxes2 w _ _ _ _ _ _ _ _ W hW
  rw [← h0] at B0
  rw [← h1] at B1 F1
  have KW : Hid (Bs W q0 r (.slice a vs.length c) (.slice b ss.length d) ∧ Bs W q1 false (.slice none 0 0) (.slice none 0 0) ∧ Fs W q1) := ⟨B0, B1, F1⟩
  have BW := hide u
  have HQ : Hid (w.heap.size ≤ q1 ∧ q0 < q1) := hide (by omega)
  have HV : Hid (∀ w', Below W.heap.size W w' → RV w' a vs) := hide (fun w' h => (HVw.out.keep u).keep h)
  have hva9 : a = none → c = 0 ∧ vs = [] := fun e => ⟨hva e, List.eq_nil_of_length_eq_zero (by have := hva e; omega)⟩
  have hlv : vs.length ≤ 1000000 := by omega
  have HS : Hid (∀ w', Below W.heap.size W w' → (w'.cell? ⟨q0, 0, none⟩ = some (.bool r) ∧ w'.cell? ⟨q0, 1, none⟩ = some (.slice a vs.length c) ∧ w'.cell? ⟨q0, 2, none⟩ = some (.slice b ss.length d))) := fun w' h => by
    have t := KW.out.1.keep h
    exact ⟨t.c0, t.c1, t.c2⟩
  clear hW h1 h0 B0 B1 F1 u
  obtain ⟨N1, hN1⟩ : ∃ z9, z9 = W.heap.size := ⟨_, rfl⟩
  have HN1 : Hid (q1 < N1) := hide (by rw [hN1]; exact KW.out.2.1.lt)
  replace hN1 := hide hN1
  go_cut [3] (fun s3 wx => ∃ (q2 : Nat) (a5 : Option Addr) (c5 : Nat), s3 = .pointer (some ⟨q2, 0, none⟩) ∧ W.heap.size ≤ q2 ∧ Hid ((Bs wx q0 r (.slice a vs.length c) (.slice b ss.length d) ∧ Bs wx q1 false (.slice none 0 0) (.slice none 0 0) ∧ Fs wx q1) ∧ Lo3 wx W.heap.size (q2 + 1) q2 48 ⟨r, vs, []⟩ (.slice a5 vs.length c5) (.slice none 0 0) [] ∧ Below w.heap.size w wx))
  case first =>
    refine wp_region_held_drew (S := fun w' => w'.cell? ⟨q0, 0, none⟩ = some (.bool r) ∧ w'.cell? ⟨q0, 1, none⟩ = some (.slice a vs.length c) ∧ w'.cell? ⟨q0, 2, none⟩ = some (.slice b ss.length d)) (by kernel_rfl) (HS.out _ (Below.refl _ _).drew) (fun hH0 => ?_)
    obtain ⟨w0, hw0⟩ : ∃ w0, w0 = W.drew := ⟨_, rfl⟩
    (try rw [← hw0] at hH0)
    rw [← hw0]
    have b0 : Hid (Below W.heap.size W w0) := hw0 ▸ hide (Below.refl _ _).drew
    clear hw0
    refine wpAnyH_take (i := 0) (oi := ({ dst := some 5, op := Op.fieldAddr 25 (Operand.tmp 1) 0, type := 0, pos := _, after := _, guard := _ } : Oper)) (v := ?_) rfl (by kernel_rfl) (by kernel_rfl) (by kernel_rfl) (fun _ _ _ h => h) (Or.inl ⟨by rfl, ?_⟩) (by assumption) ?_
    rotate_left
    · (intro wz hSw; (try dsimp only at hSw); go_simp; try with_reducible rfl)
    simp only [Act.put, List.setIfInBounds_toArray, List.set_cons_zero, List.set_cons_succ]
    refine wpAnyH_take (i := 1) (oi := ({ dst := some 6, op := Op.load 4 (Operand.tmp 5), type := 4, pos := _, after := _, guard := _ } : Oper)) (v := ?_) rfl (by kernel_rfl) (by kernel_rfl) (by kernel_rfl) (fun _ _ _ h => h) (Or.inl ⟨by rfl, ?_⟩) (by assumption) ?_
    rotate_left
    · (intro wz hSw; (try dsimp only at hSw); go_simp; try with_reducible rfl)
    simp only [Act.put, List.setIfInBounds_toArray, List.set_cons_zero, List.set_cons_succ]
    refine wpAnyH_take (i := 3) (oi := ({ dst := some 8, op := Op.fieldAddr 25 (Operand.tmp 1) 1, type := 0, pos := _, after := _, guard := _ } : Oper)) (v := ?_) rfl (by kernel_rfl) (by kernel_rfl) (by kernel_rfl) (fun _ _ _ h => h) (Or.inl ⟨by rfl, ?_⟩) (by assumption) ?_
    rotate_left
    · (intro wz hSw; (try dsimp only at hSw); go_simp; try with_reducible rfl)
    simp only [Act.put, List.setIfInBounds_toArray, List.set_cons_zero, List.set_cons_succ]
    refine wpAnyH_take (i := 4) (oi := ({ dst := some 9, op := Op.load 22 (Operand.tmp 8), type := 22, pos := _, after := _, guard := _ } : Oper)) (v := ?_) rfl (by kernel_rfl) (by kernel_rfl) (by kernel_rfl) (fun _ _ _ h => h) (Or.inl ⟨by rfl, ?_⟩) (by assumption) ?_
    rotate_left
    · (intro wz hSw; (try dsimp only at hSw); go_simp; try with_reducible rfl)
    simp only [Act.put, List.setIfInBounds_toArray, List.set_cons_zero, List.set_cons_succ]
    refine wpAnyH_ready (rs := [2, 7]) (by kernel_rfl) (by simp) ?_
    refine AllReadyH.cons (o := ({ dst := some 7, op := Op.buildSlice 22 0 #[], type := 22, pos := _, after := _, guard := _ } : Oper)) rfl (fun K hK => ?_) (AllReadyH.cons (o := ({ dst := some 3, op := Op.alloc 25, type := 0, pos := _, after := _, guard := _ } : Oper)) rfl (fun K hK => ?_) AllReadyH.nil)
    · go_simp
      have hb1 : Below w0.heap.size w0 (w0.alloc (.cells #[] 48)) := (Below.refl _ _).alloc (Nat.le_refl _) _
      have b1 := hide (b0.out.trans (hb1.mono b0.out.size))
      have O1 : Hid (OwV (w0.alloc (.cells #[] 48)) W.heap.size 48 (.slice (some ⟨w0.heap.size, 0, none⟩) 0 0) []) := ownsRow_mono (OwV.lit0 w0 48) b0.out.size
      refine hK.out _ _ (HS.out _ b1.out) (fun hH1 => ?_)
      clear hK K hb1
      obtain ⟨w1, hw1⟩ : ∃ z9, z9 = (w0.alloc (.cells #[] 48)) := ⟨_, rfl⟩
      rw [← hw1] at hH1 b1 O1 ⊢
      clear hw1
      generalize (Value.slice (some ⟨w0.heap.size, 0, none⟩) 0 0) = vl at *
      refine wpAnyH_ready (rs := [5, 7]) (by kernel_rfl) (by simp) ?_
      refine AllReadyH.cons (o := ({ dst := some 10, op := Op.call { callee := Callee.builtin Builtin.append, args := #[Operand.tmp 7, Operand.tmp 9], argTypes := #[22, 22] }, type := 22, pos := _, after := _, guard := _ } : Oper)) rfl (fun K hK => ?_) (AllReadyH.cons (o := ({ dst := some 3, op := Op.alloc 25, type := 0, pos := _, after := _, guard := _ } : Oper)) rfl (fun K hK => ?_) AllReadyH.nil)
      · refine wp_appVn w1 W.heap.size 22 48 Try.underlying22 info48p (.tmp 7) (.tmp 9) rfl vl vs a c O1.out (HV.out _ b1.out) hva9 rfl rfl hlv b1.out.size ?_
        intro a5 c5 w2 hO hg
        have b2 := hide (b1.out.grown hg b1.out.size (fun k hk => (O1.out.lt k hk).1))
        have O2 := hide hO
        refine hK.out _ _ (HS.out _ b2.out) (fun hH2 => ?_)
        clear hK K hO hg
        refine wpAnyH_take (i := 6) (oi := ({ dst := some 11, op := Op.build 25 #[(0, Operand.tmp 6), (1, Operand.tmp 10)], type := 25, pos := _, after := _, guard := _ } : Oper)) (v := ?_) rfl (by kernel_rfl) (by kernel_rfl) (by kernel_rfl) (fun _ _ _ h => h) (Or.inl ⟨by rfl, ?_⟩) (by assumption) ?_
        rotate_left
        · (intro wz hSw; (try dsimp only at hSw); go_simp; try with_reducible rfl)
        simp only [Act.put, List.setIfInBounds_toArray, List.set_cons_zero, List.set_cons_succ]
        refine wpAnyH_ready (rs := [7]) (by kernel_rfl) (by simp) ?_
        refine AllReadyH.cons (o := ({ dst := some 3, op := Op.alloc 25, type := 0, pos := _, after := _, guard := _ } : Oper)) rfl (fun K hK => ?_) AllReadyH.nil
        · go_simp
          have hb3 : Below w2.heap.size w2 (w2.alloc (.cells #[.bool false, .slice none 0 0, .slice none 0 0] 25)) := (Below.refl _ _).alloc (Nat.le_refl _) _
          have b3 := hide (b2.out.trans (hb3.mono b2.out.size))
          have O3 := hide (O2.out.keep hb3)
          have X3 := hide (And.intro (Bs.new w2 false (.slice none 0 0) (.slice none 0 0) 25) (And.intro (Fs.new w2 false (.slice none 0 0) (.slice none 0 0) 25) (Tg.new w2 #[.bool false, .slice none 0 0, .slice none 0 0])))
          have NQ : Hid (W.heap.size ≤ w2.heap.size) := hide b2.out.size
          refine hK.out _ _ (HS.out _ b3.out) (fun hH3 => ?_)
          clear hK K hb3
          obtain ⟨w3, hw3⟩ : ∃ z9, z9 = (w2.alloc (.cells #[.bool false, .slice none 0 0, .slice none 0 0] 25)) := ⟨_, rfl⟩
          rw [← hw3] at hH3 X3 b3 O3 ⊢
          clear hw3
          generalize w2.heap.size = q2 at *
          refine wpAnyH_ready (rs := [8]) (by kernel_rfl) (by simp) ?_
          refine AllReadyH.cons (o := ({ dst := none, op := Op.store 25 (Operand.tmp 3) (Operand.tmp 11), type := 0, pos := _, after := _, guard := _ } : Oper)) rfl (fun K hK => ?_) AllReadyH.nil
          · have z0 := X3.out.1.c0
            have z1 := X3.out.1.c1
            have z2 := X3.out.1.c2
            have y0 := X3.out.2.1.f0
            have y1 := X3.out.2.1.f1
            have y2 := X3.out.2.1.f2
            go_simp
            have NV : Hid (∀ k, Value.ownBlock (.slice a5 vs.length c5) = some k → k ≠ q2) := hide (fun k hk e => tg_ne O3.out X3.out.2.2 (by decide) (e ▸ hk.symm))
            have X4 := hide (And.intro (X3.out.1.put3 r (.slice a5 vs.length c5) (.slice none 0 0)) (X3.out.2.1.put3 (p := q2) r (.slice a5 vs.length c5) (.slice none 0 0)))
            have b4 := hide (st3_below b3.out q2 NQ.out r (.slice a5 vs.length c5) (.slice none 0 0))
            have O4 := hide (O3.out.of (fun k hk => st3_block w3 q2 r (.slice a5 vs.length c5) (.slice none 0 0) k (NV.out k hk)))
            refine hK.out _ _ (HS.out _ b4.out) (fun hH4 => ?_)
            clear hK K z0 z1 z2 y0 y1 y2
            refine wpAnyH_done (by kernel_rfl) ?_ _
            go_wp2_with fail
            go_meet
            case rel => exact ⟨q2, a5, c5, rfl, NQ.out, ⟨KW.out.1.of (b4.out.block q0 KW.out.1.lt), KW.out.2.1.of (b4.out.block q1 KW.out.2.1.lt), KW.out.2.2.of (b4.out.block q1 KW.out.2.1.lt)⟩, ⟨⟨X4.out.1, X4.out.2, O4.out, OwR.nil _ _, Inn.nil _ _, Nat.lt_succ_self _, NV.out⟩, List.Pairwise.nil⟩, BW.out.trans (b4.out.mono BW.out.size)⟩
      · go_simp
        have hb2 : Below w1.heap.size w1 (w1.alloc (.cells #[.bool false, .slice none 0 0, .slice none 0 0] 25)) := (Below.refl _ _).alloc (Nat.le_refl _) _
        have b2 := hide (b1.out.trans (hb2.mono b1.out.size))
        have O2 := hide (O1.out.keep hb2)
        have X2 := hide (And.intro (Bs.new w1 false (.slice none 0 0) (.slice none 0 0) 25) (And.intro (Fs.new w1 false (.slice none 0 0) (.slice none 0 0) 25) (Tg.new w1 #[.bool false, .slice none 0 0, .slice none 0 0])))
        have NQ : Hid (W.heap.size ≤ w1.heap.size) := hide b1.out.size
        refine hK.out _ _ (HS.out _ b2.out) (fun hH2 => ?_)
        clear hK K hb2
        obtain ⟨w2, hw2⟩ : ∃ z9, z9 = (w1.alloc (.cells #[.bool false, .slice none 0 0, .slice none 0 0] 25)) := ⟨_, rfl⟩
        rw [← hw2] at hH2 X2 b2 O2 ⊢
        clear hw2
        generalize w1.heap.size = q2 at *
        refine wpAnyH_ready (rs := [5]) (by kernel_rfl) (by simp) ?_
        refine AllReadyH.cons (o := ({ dst := some 10, op := Op.call { callee := Callee.builtin Builtin.append, args := #[Operand.tmp 7, Operand.tmp 9], argTypes := #[22, 22] }, type := 22, pos := _, after := _, guard := _ } : Oper)) rfl (fun K hK => ?_) AllReadyH.nil
        · refine wp_appVn w2 W.heap.size 22 48 Try.underlying22 info48p (.tmp 7) (.tmp 9) rfl vl vs a c O2.out (HV.out _ b2.out) hva9 rfl rfl hlv b2.out.size ?_
          intro a5 c5 w3 hO hg
          have b3 := hide (b2.out.grown hg b2.out.size (fun k hk => (O2.out.lt k hk).1))
          have qx := hg.block q2 X2.out.1.lt (tg_ne O2.out X2.out.2.2 (by decide))
          have X3 := hide (And.intro (X2.out.1.of qx) (And.intro (X2.out.2.1.of qx) (X2.out.2.2.of qx)))
          clear qx
          have O3 := hide hO
          refine hK.out _ _ (HS.out _ b3.out) (fun hH3 => ?_)
          clear hK K hO hg
          refine wpAnyH_take (i := 6) (oi := ({ dst := some 11, op := Op.build 25 #[(0, Operand.tmp 6), (1, Operand.tmp 10)], type := 25, pos := _, after := _, guard := _ } : Oper)) (v := ?_) rfl (by kernel_rfl) (by kernel_rfl) (by kernel_rfl) (fun _ _ _ h => h) (Or.inl ⟨by rfl, ?_⟩) (by assumption) ?_
          rotate_left
          · (intro wz hSw; (try dsimp only at hSw); go_simp; try with_reducible rfl)
          simp only [Act.put, List.setIfInBounds_toArray, List.set_cons_zero, List.set_cons_succ]
          refine wpAnyH_ready (rs := [8]) (by kernel_rfl) (by simp) ?_
          refine AllReadyH.cons (o := ({ dst := none, op := Op.store 25 (Operand.tmp 3) (Operand.tmp 11), type := 0, pos := _, after := _, guard := _ } : Oper)) rfl (fun K hK => ?_) AllReadyH.nil
          · have z0 := X3.out.1.c0
            have z1 := X3.out.1.c1
            have z2 := X3.out.1.c2
            have y0 := X3.out.2.1.f0
            have y1 := X3.out.2.1.f1
            have y2 := X3.out.2.1.f2
            go_simp
            have NV : Hid (∀ k, Value.ownBlock (.slice a5 vs.length c5) = some k → k ≠ q2) := hide (fun k hk e => tg_ne O3.out X3.out.2.2 (by decide) (e ▸ hk.symm))
            have X4 := hide (And.intro (X3.out.1.put3 r (.slice a5 vs.length c5) (.slice none 0 0)) (X3.out.2.1.put3 (p := q2) r (.slice a5 vs.length c5) (.slice none 0 0)))
            have b4 := hide (st3_below b3.out q2 NQ.out r (.slice a5 vs.length c5) (.slice none 0 0))
            have O4 := hide (O3.out.of (fun k hk => st3_block w3 q2 r (.slice a5 vs.length c5) (.slice none 0 0) k (NV.out k hk)))
            refine hK.out _ _ (HS.out _ b4.out) (fun hH4 => ?_)
            clear hK K z0 z1 z2 y0 y1 y2
            refine wpAnyH_done (by kernel_rfl) ?_ _
            go_wp2_with fail
            go_meet
            case rel => exact ⟨q2, a5, c5, rfl, NQ.out, ⟨KW.out.1.of (b4.out.block q0 KW.out.1.lt), KW.out.2.1.of (b4.out.block q1 KW.out.2.1.lt), KW.out.2.2.of (b4.out.block q1 KW.out.2.1.lt)⟩, ⟨⟨X4.out.1, X4.out.2, O4.out, OwR.nil _ _, Inn.nil _ _, Nat.lt_succ_self _, NV.out⟩, List.Pairwise.nil⟩, BW.out.trans (b4.out.mono BW.out.size)⟩
    · go_simp
      have hb1 : Below w0.heap.size w0 (w0.alloc (.cells #[.bool false, .slice none 0 0, .slice none 0 0] 25)) := (Below.refl _ _).alloc (Nat.le_refl _) _
      have b1 := hide (b0.out.trans (hb1.mono b0.out.size))
      have X1 := hide (And.intro (Bs.new w0 false (.slice none 0 0) (.slice none 0 0) 25) (And.intro (Fs.new w0 false (.slice none 0 0) (.slice none 0 0) 25) (Tg.new w0 #[.bool false, .slice none 0 0, .slice none 0 0])))
      have NQ : Hid (W.heap.size ≤ w0.heap.size) := hide b0.out.size
      refine hK.out _ _ (HS.out _ b1.out) (fun hH1 => ?_)
      clear hK K hb1
      obtain ⟨w1, hw1⟩ : ∃ z9, z9 = (w0.alloc (.cells #[.bool false, .slice none 0 0, .slice none 0 0] 25)) := ⟨_, rfl⟩
      rw [← hw1] at hH1 X1 b1  ⊢
      clear hw1
      generalize w0.heap.size = q2 at *
      refine wpAnyH_ready (rs := [2]) (by kernel_rfl) (by simp) ?_
      refine AllReadyH.cons (o := ({ dst := some 7, op := Op.buildSlice 22 0 #[], type := 22, pos := _, after := _, guard := _ } : Oper)) rfl (fun K hK => ?_) AllReadyH.nil
      · go_simp
        have hb2 : Below w1.heap.size w1 (w1.alloc (.cells #[] 48)) := (Below.refl _ _).alloc (Nat.le_refl _) _
        have b2 := hide (b1.out.trans (hb2.mono b1.out.size))
        have X2 := hide (And.intro (X1.out.1.keep hb2) (And.intro (X1.out.2.1.of (hb2.block q2 X1.out.1.lt)) (X1.out.2.2.of (hb2.block q2 X1.out.1.lt))))
        have O2 : Hid (OwV (w1.alloc (.cells #[] 48)) W.heap.size 48 (.slice (some ⟨w1.heap.size, 0, none⟩) 0 0) []) := ownsRow_mono (OwV.lit0 w1 48) b1.out.size
        refine hK.out _ _ (HS.out _ b2.out) (fun hH2 => ?_)
        clear hK K hb2
        obtain ⟨w2, hw2⟩ : ∃ z9, z9 = (w1.alloc (.cells #[] 48)) := ⟨_, rfl⟩
        rw [← hw2] at hH2 b2 O2 X2 ⊢
        clear hw2
        generalize (Value.slice (some ⟨w1.heap.size, 0, none⟩) 0 0) = vl at *
        refine wpAnyH_ready (rs := [5]) (by kernel_rfl) (by simp) ?_
        refine AllReadyH.cons (o := ({ dst := some 10, op := Op.call { callee := Callee.builtin Builtin.append, args := #[Operand.tmp 7, Operand.tmp 9], argTypes := #[22, 22] }, type := 22, pos := _, after := _, guard := _ } : Oper)) rfl (fun K hK => ?_) AllReadyH.nil
        · refine wp_appVn w2 W.heap.size 22 48 Try.underlying22 info48p (.tmp 7) (.tmp 9) rfl vl vs a c O2.out (HV.out _ b2.out) hva9 rfl rfl hlv b2.out.size ?_
          intro a5 c5 w3 hO hg
          have b3 := hide (b2.out.grown hg b2.out.size (fun k hk => (O2.out.lt k hk).1))
          have qx := hg.block q2 X2.out.1.lt (tg_ne O2.out X2.out.2.2 (by decide))
          have X3 := hide (And.intro (X2.out.1.of qx) (And.intro (X2.out.2.1.of qx) (X2.out.2.2.of qx)))
          clear qx
          have O3 := hide hO
          refine hK.out _ _ (HS.out _ b3.out) (fun hH3 => ?_)
          clear hK K hO hg
          refine wpAnyH_take (i := 6) (oi := ({ dst := some 11, op := Op.build 25 #[(0, Operand.tmp 6), (1, Operand.tmp 10)], type := 25, pos := _, after := _, guard := _ } : Oper)) (v := ?_) rfl (by kernel_rfl) (by kernel_rfl) (by kernel_rfl) (fun _ _ _ h => h) (Or.inl ⟨by rfl, ?_⟩) (by assumption) ?_
          rotate_left
          · (intro wz hSw; (try dsimp only at hSw); go_simp; try with_reducible rfl)
          simp only [Act.put, List.setIfInBounds_toArray, List.set_cons_zero, List.set_cons_succ]
          refine wpAnyH_ready (rs := [8]) (by kernel_rfl) (by simp) ?_
          refine AllReadyH.cons (o := ({ dst := none, op := Op.store 25 (Operand.tmp 3) (Operand.tmp 11), type := 0, pos := _, after := _, guard := _ } : Oper)) rfl (fun K hK => ?_) AllReadyH.nil
          · have z0 := X3.out.1.c0
            have z1 := X3.out.1.c1
            have z2 := X3.out.1.c2
            have y0 := X3.out.2.1.f0
            have y1 := X3.out.2.1.f1
            have y2 := X3.out.2.1.f2
            go_simp
            have NV : Hid (∀ k, Value.ownBlock (.slice a5 vs.length c5) = some k → k ≠ q2) := hide (fun k hk e => tg_ne O3.out X3.out.2.2 (by decide) (e ▸ hk.symm))
            have X4 := hide (And.intro (X3.out.1.put3 r (.slice a5 vs.length c5) (.slice none 0 0)) (X3.out.2.1.put3 (p := q2) r (.slice a5 vs.length c5) (.slice none 0 0)))
            have b4 := hide (st3_below b3.out q2 NQ.out r (.slice a5 vs.length c5) (.slice none 0 0))
            have O4 := hide (O3.out.of (fun k hk => st3_block w3 q2 r (.slice a5 vs.length c5) (.slice none 0 0) k (NV.out k hk)))
            refine hK.out _ _ (HS.out _ b4.out) (fun hH4 => ?_)
            clear hK K z0 z1 z2 y0 y1 y2
            refine wpAnyH_done (by kernel_rfl) ?_ _
            go_wp2_with fail
            go_meet
            case rel => exact ⟨q2, a5, c5, rfl, NQ.out, ⟨KW.out.1.of (b4.out.block q0 KW.out.1.lt), KW.out.2.1.of (b4.out.block q1 KW.out.2.1.lt), KW.out.2.2.of (b4.out.block q1 KW.out.2.1.lt)⟩, ⟨⟨X4.out.1, X4.out.2, O4.out, OwR.nil _ _, Inn.nil _ _, Nat.lt_succ_self _, NV.out⟩, List.Pairwise.nil⟩, BW.out.trans (b4.out.mono BW.out.size)⟩
  case rest =>
    obtain ⟨q2, a5, c5, rfl, hq2, h4⟩ := hcut
    rw [← hN1.out] at h4 hq2
    have FQ : Hid (q0 < q2 ∧ q1 < q2) := hide (by have := HQ.out; have := HN1.out; omega)
    have FQ2 : Hid (w.heap.size ≤ q2) := hide (by have := HQ.out; have := HN1.out; omega)
    clear HS HV KW BW hN1
    clear hva9 hlv
    go_wp2_with fail
    go_loopw [4] (fun s15 wr => ∃ (k : Nat) (sa : Value) (es : List Value), s15 = .int .i64 k ∧ k ≤ ss.length ∧ Hid ((Bs wr q0 r (.slice a vs.length c) (.slice b ss.length d) ∧ Bs wr q1 false (.slice none 0 0) (.slice none 0 0) ∧ Fs wr q1) ∧ Lo3 wr N1 (q2 + 1) q2 48 ⟨r, vs, ss.take k⟩ (.slice a5 vs.length c5) sa es ∧ Below w.heap.size w wr)) (fun s15 _ => ss.length - (intOf s15).toNat)
    case atStart => exact ⟨0, _, _, rfl, Nat.zero_le _, h4.out⟩
    case round =>
      obtain ⟨k, sa, es, rfl, hk, h5⟩ := hrel
      clear h4
      have e9 := h5.out.1.1.c2
      by_cases hks : k < ss.length
      · have hks2 : (k : Int) < ss.length := by omega
        obtain ⟨b2, o2, l, ai, ci, hX2, rfl, hc1, hc2, hlc, hln⟩ := HRw.out.at hks
        have HX := hide hX2
        have hll := HL3.out k l hX2
        have HC1 := hide hc1
        have HN : Hid (ai = none → ci = 0 ∧ l = []) := hide (fun e => ⟨hln e, List.eq_nil_of_length_eq_zero (by have := hln e; omega)⟩)
        have hll9 : l.length ≤ 1000000 := by omega
        have HI0 := hide hc2
        clear hX2 hc1 hc2
        go_upto_region 5 with fail
        go_name_world W5 hW5
        rw [hW5] at h5
        clear hW5 e9
        have KW2 := hide h5.out.1
        have LW := hide h5.out.2.1
        have BW2 := hide h5.out.2.2
        have HI : Hid (∀ w', Below q2 W5 w' → Ri w' ai l) := hide (fun w' h => HI0.out.keep' (BW2.out.trans (h.mono FQ2.out)))
        have HS : Hid (∀ w', Below q2 W5 w' → (w'.cell? ⟨q0, 2, none⟩ = some (.slice (some ⟨b2, o2, none⟩) ss.length d) ∧ w'.cell? ⟨b2, o2 + k, none⟩ = some (.slice ai l.length ci))) := hide (fun w' h => ⟨(h.cell (p := ⟨q0, 2, none⟩) FQ.out.1).trans KW2.out.1.c2, ((BW2.out.trans (h.mono FQ2.out)).cell (p := ⟨b2, o2 + k, none⟩) (World.block_lt_of_cell? w _ HC1.out)).trans HC1.out⟩)
        clear h5
        refine wp_region_held_drew (S := fun w' => w'.cell? ⟨q0, 2, none⟩ = some (.slice (some ⟨b2, o2, none⟩) ss.length d) ∧ w'.cell? ⟨b2, o2 + k, none⟩ = some (.slice ai l.length ci)) (by kernel_rfl) (HS.out _ (Below.refl _ _).drew) (fun hH0 => ?_)
        obtain ⟨w0, hw0⟩ : ∃ w0, w0 = W5.drew := ⟨_, rfl⟩
        (try rw [← hw0] at hH0)
        rw [← hw0]
        have L0 : Hid (Lo3 w0 N1 (q2 + 1) q2 48 ⟨r, vs, ss.take k⟩ (.slice a5 vs.length c5) sa es) := hw0 ▸ hide (LW.out.of (Below.refl _ _).drew)
        have b0 : Hid (Below q2 W5 w0) := hw0 ▸ hide (Below.refl _ _).drew
        clear hw0
        refine wpAnyH_take (i := 0) (oi := ({ dst := some 19, op := Op.fieldAddr 25 (Operand.tmp 3) 2, type := 0, pos := _, after := _, guard := _ } : Oper)) (v := ?_) rfl (by kernel_rfl) (by kernel_rfl) (by kernel_rfl) (fun _ _ _ h => h) (Or.inl ⟨by rfl, ?_⟩) (by assumption) ?_
        rotate_left
        · (intro wz hSw; (try dsimp only at hSw); go_simp; try with_reducible rfl)
        simp only [Act.put, List.setIfInBounds_toArray, List.set_cons_zero, List.set_cons_succ]
        refine wpAnyH_take (i := 3) (oi := ({ dst := some 22, op := Op.fieldAddr 25 (Operand.tmp 1) 2, type := 0, pos := _, after := _, guard := _ } : Oper)) (v := ?_) rfl (by kernel_rfl) (by kernel_rfl) (by kernel_rfl) (fun _ _ _ h => h) (Or.inl ⟨by rfl, ?_⟩) (by assumption) ?_
        rotate_left
        · (intro wz hSw; (try dsimp only at hSw); go_simp; try with_reducible rfl)
        simp only [Act.put, List.setIfInBounds_toArray, List.set_cons_zero, List.set_cons_succ]
        refine wpAnyH_take (i := 4) (oi := ({ dst := some 23, op := Op.load 23 (Operand.tmp 22), type := 23, pos := _, after := _, guard := _ } : Oper)) (v := ?_) rfl (by kernel_rfl) (by kernel_rfl) (by kernel_rfl) (fun _ _ _ h => h) (Or.inl ⟨by rfl, ?_⟩) (by assumption) ?_
        rotate_left
        · (intro wz hSw; (try dsimp only at hSw); go_simp; try with_reducible rfl)
        simp only [Act.put, List.setIfInBounds_toArray, List.set_cons_zero, List.set_cons_succ]
        refine wpAnyH_take (i := 5) (oi := ({ dst := some 24, op := Op.move (Operand.tmp 4), type := 3, pos := _, after := _, guard := _ } : Oper)) (v := ?_) rfl (by kernel_rfl) (by kernel_rfl) (by kernel_rfl) (fun _ _ _ h => h) (Or.inl ⟨by rfl, ?_⟩) (by assumption) ?_
        rotate_left
        · (intro wz hSw; (try dsimp only at hSw); go_simp; try with_reducible rfl)
        simp only [Act.put, List.setIfInBounds_toArray, List.set_cons_zero, List.set_cons_succ]
        refine wpAnyH_take (i := 6) (oi := ({ dst := some 25, op := Op.indexAddr 23 (Operand.tmp 23) (Operand.tmp 24), type := 0, pos := _, after := _, guard := _ } : Oper)) (v := ?_) rfl (by kernel_rfl) (by kernel_rfl) (by kernel_rfl) (fun _ _ _ h => h) (Or.inl ⟨by rfl, ?_⟩) (by assumption) ?_
        rotate_left
        · (intro wz hSw; (try dsimp only at hSw); go_simp; try with_reducible rfl)
        simp only [Act.put, List.setIfInBounds_toArray, List.set_cons_zero, List.set_cons_succ]
        refine wpAnyH_take (i := 7) (oi := ({ dst := some 26, op := Op.load 38 (Operand.tmp 25), type := 38, pos := _, after := _, guard := _ } : Oper)) (v := ?_) rfl (by kernel_rfl) (by kernel_rfl) (by kernel_rfl) (fun _ _ _ h => h) (Or.inl ⟨by rfl, ?_⟩) (by assumption) ?_
        rotate_left
        · (intro wz hSw; (try dsimp only at hSw); go_simp; try with_reducible rfl)
        simp only [Act.put, List.setIfInBounds_toArray, List.set_cons_zero, List.set_cons_succ]
        refine wpAnyH_ready (rs := [1, 2]) (by kernel_rfl) (by simp) ?_
        refine AllReadyH.cons (o := ({ dst := some 20, op := Op.load 23 (Operand.tmp 19), type := 23, pos := _, after := _, guard := _ } : Oper)) rfl (fun K hK => ?_) (AllReadyH.cons (o := ({ dst := some 21, op := Op.buildSlice 38 0 #[], type := 38, pos := _, after := _, guard := _ } : Oper)) rfl (fun K hK => ?_) AllReadyH.nil)
        · have zc := L0.out.bx.c2
          go_simp
          refine hK.out _ _ hH0 (fun _ => ?_)
          clear hK K zc
          refine wpAnyH_ready (rs := [2]) (by kernel_rfl) (by simp) ?_
          refine AllReadyH.cons (o := ({ dst := some 21, op := Op.buildSlice 38 0 #[], type := 38, pos := _, after := _, guard := _ } : Oper)) rfl (fun K hK => ?_) AllReadyH.nil
          · go_simp
            have hb1 : Below w0.heap.size w0 (w0.alloc (.cells #[] 3)) := (Below.refl _ _).alloc (Nat.le_refl _) _
            have L1 := hide (L0.out.of hb1)
            have b1 := hide (b0.out.trans (hb1.mono (Nat.le_of_lt L0.out.bx.lt)))
            have E1 := hide (St.lit0 w0)
            refine hK.out _ _ (HS.out _ b1.out) (fun hH1 => ?_)
            clear hK K hb1
            obtain ⟨w1, hw1⟩ : ∃ z9, z9 = (w0.alloc (.cells #[] 3)) := ⟨_, rfl⟩
            rw [← hw1] at hH1 L1 b1 E1 ⊢
            clear hw1
            obtain ⟨ne, hne⟩ : ∃ z9, z9 = w0.heap.size := ⟨_, rfl⟩
            rw [← hne] at E1 ⊢
            replace hne := hide hne
            refine wpAnyH_ready (rs := [8]) (by kernel_rfl) (by simp) ?_
            refine AllReadyH.cons (o := ({ dst := some 27, op := Op.call { callee := Callee.builtin Builtin.append, args := #[Operand.tmp 21, Operand.tmp 26], argTypes := #[38, 38] }, type := 38, pos := _, after := _, guard := _ } : Oper)) rfl (fun K hK => ?_) AllReadyH.nil
            · refine wp_appZ w0 w1 (.tmp 21) (.tmp 26) rfl _ E1.out rfl ai ci l rfl (HI.out _ b1.out) HN.out hll9 ?_
              intro a2 c2 w2 hO2
              have L2 := hide (L0.out.of hO2.bel)
              have b2 := hide (b0.out.trans (hO2.bel.mono (Nat.le_of_lt L0.out.bx.lt)))
              have DD := hide (L0.out.inn.fresh hO2)
              have I2 := hide (hO2.owi (Nat.succ_le_of_lt L0.out.bx.lt))
              refine hK.out _ _ (HS.out _ b2.out) (fun hH2 => ?_)
              clear hK K hO2 E1
              refine wpAnyH_ready (rs := [9]) (by kernel_rfl) (by simp) ?_
              refine AllReadyH.cons (o := ({ dst := some 28, op := Op.buildSlice 23 1 #[(0, Operand.tmp 27)], type := 23, pos := _, after := _, guard := _ } : Oper)) rfl (fun K hK => ?_) AllReadyH.nil
              · go_simp
                have hb3 : Below w2.heap.size w2 (w2.alloc (.cells #[(.slice a2 l.length c2)] 38)) := (Below.refl _ _).alloc (Nat.le_refl _) _
                have L3 := hide (L2.out.of hb3)
                have b3 := hide (b2.out.trans (hb3.mono (Nat.le_of_lt L2.out.bx.lt)))
                have I3 := hide (I2.out.keep hb3)
                have Y3 := hide (C1.new w2 (.slice a2 l.length c2) 38)
                refine hK.out _ _ (HS.out _ b3.out) (fun hH3 => ?_)
                clear hK K hb3
                obtain ⟨w3, hw3⟩ : ∃ z9, z9 = (w2.alloc (.cells #[(.slice a2 l.length c2)] 38)) := ⟨_, rfl⟩
                rw [← hw3] at hH3 L3 b3 Y3 I3 ⊢
                clear hw3
                generalize w2.heap.size = nc at *
                refine wpAnyH_ready (rs := [10]) (by kernel_rfl) (by simp) ?_
                refine AllReadyH.cons (o := ({ dst := some 29, op := Op.call { callee := Callee.builtin Builtin.append, args := #[Operand.tmp 20, Operand.tmp 28], argTypes := #[23, 23] }, type := 23, pos := _, after := _, guard := _ } : Oper)) rfl (fun K hK => ?_) AllReadyH.nil
                · refine wp_appR' w3 (q2 + 1) (.tmp 20) (.tmp 28) rfl _ es (.slice a2 l.length c2) nc rfl L3.out.os Y3.out.c rfl rfl ?_ (Nat.succ_le_of_lt L3.out.bx.lt) ?_
                  · (have t1 := L3.out.inn.1; dsimp only at t1; rw [List.length_take] at t1; omega)
                  intro a4 c4 w4 hO4 hg4
                  have b4 := hide (L3.out.belR b3.out hg4)
                  refine hK.out _ _ (HS.out _ b4.out) (fun hH4 => ?_)
                  clear hK K
                  replace hO4 := hide hO4
                  replace hg4 := hide hg4
                  refine wpAnyH_take (i := 11) (oi := ({ dst := some 30, op := Op.fieldAddr 25 (Operand.tmp 3) 2, type := 0, pos := _, after := _, guard := _ } : Oper)) (v := ?_) rfl (by kernel_rfl) (by kernel_rfl) (by kernel_rfl) (fun _ _ _ h => h) (Or.inl ⟨by rfl, ?_⟩) (by assumption) ?_
                  rotate_left
                  · (intro wz hSw; (try dsimp only at hSw); go_simp; try with_reducible rfl)
                  simp only [Act.put, List.setIfInBounds_toArray, List.set_cons_zero, List.set_cons_succ]
                  refine wpAnyH_ready (rs := [12]) (by kernel_rfl) (by simp) ?_
                  refine AllReadyH.cons (o := ({ dst := none, op := Op.store 23 (Operand.tmp 30) (Operand.tmp 29), type := 0, pos := _, after := _, guard := _ } : Oper)) rfl (fun K hK => ?_) AllReadyH.nil
                  · have zb := (L3.out.boxR hg4.out).1
                    have zf := (L3.out.boxR hg4.out).2
                    have z0 := zb.c0
                    have z1 := zb.c1
                    have z2 := zb.c2
                    have y0 := zf.f0
                    have y1 := zf.f1
                    have y2 := zf.f2
                    clear zb zf
                    go_simp
                    have L5 := hide (L3.out.appR (by decide) I3.out DD.out hO4.out hg4.out)
                    have b5 := hide (b4.out.setCell (p := ⟨q2, 2, none⟩) (Nat.le_refl _) (.slice a4 (es.length + 1) c4))
                    refine hK.out _ _ (HS.out _ b5.out) (fun hH5 => ?_)
                    clear hK K z0 z1 z2 y0 y1 y2
                    obtain ⟨w5, hw5⟩ : ∃ z9, z9 = w4.setCell ⟨q2, 2, none⟩ (.slice a4 (es.length + 1) c4) := ⟨_, rfl⟩
                    rw [← hw5] at hH5 L5 b5  ⊢
                    clear hw5
                    refine wpAnyH_done (by kernel_rfl) ?_ _
                    clear HS
                    go_wp2_with fail
                    exact ⟨⟨k + 1, _, _, by simp, by omega, ⟨⟨KW2.out.1.of (b5.out.block q0 FQ.out.1), KW2.out.2.1.of (b5.out.block q1 FQ.out.2), KW2.out.2.2.of (b5.out.block q1 FQ.out.2)⟩, by rw [take_more HX.out]; exact L5.out, BW2.out.trans (b5.out.mono FQ2.out)⟩⟩, by simp [intOf]; omega⟩
        · go_simp
          have hb1 : Below w0.heap.size w0 (w0.alloc (.cells #[] 3)) := (Below.refl _ _).alloc (Nat.le_refl _) _
          have L1 := hide (L0.out.of hb1)
          have b1 := hide (b0.out.trans (hb1.mono (Nat.le_of_lt L0.out.bx.lt)))
          have E1 := hide (St.lit0 w0)
          refine hK.out _ _ (HS.out _ b1.out) (fun hH1 => ?_)
          clear hK K hb1
          obtain ⟨w1, hw1⟩ : ∃ z9, z9 = (w0.alloc (.cells #[] 3)) := ⟨_, rfl⟩
          rw [← hw1] at hH1 L1 b1 E1 ⊢
          clear hw1
          obtain ⟨ne, hne⟩ : ∃ z9, z9 = w0.heap.size := ⟨_, rfl⟩
          rw [← hne] at E1 ⊢
          replace hne := hide hne
          refine wpAnyH_ready (rs := [1, 8]) (by kernel_rfl) (by simp) ?_
          refine AllReadyH.cons (o := ({ dst := some 20, op := Op.load 23 (Operand.tmp 19), type := 23, pos := _, after := _, guard := _ } : Oper)) rfl (fun K hK => ?_) (AllReadyH.cons (o := ({ dst := some 27, op := Op.call { callee := Callee.builtin Builtin.append, args := #[Operand.tmp 21, Operand.tmp 26], argTypes := #[38, 38] }, type := 38, pos := _, after := _, guard := _ } : Oper)) rfl (fun K hK => ?_) AllReadyH.nil)
          · have zc := L1.out.bx.c2
            go_simp
            refine hK.out _ _ hH1 (fun _ => ?_)
            clear hK K zc
            refine wpAnyH_ready (rs := [8]) (by kernel_rfl) (by simp) ?_
            refine AllReadyH.cons (o := ({ dst := some 27, op := Op.call { callee := Callee.builtin Builtin.append, args := #[Operand.tmp 21, Operand.tmp 26], argTypes := #[38, 38] }, type := 38, pos := _, after := _, guard := _ } : Oper)) rfl (fun K hK => ?_) AllReadyH.nil
            · refine wp_appZ w0 w1 (.tmp 21) (.tmp 26) rfl _ E1.out rfl ai ci l rfl (HI.out _ b1.out) HN.out hll9 ?_
              intro a2 c2 w2 hO2
              have L2 := hide (L0.out.of hO2.bel)
              have b2 := hide (b0.out.trans (hO2.bel.mono (Nat.le_of_lt L0.out.bx.lt)))
              have DD := hide (L0.out.inn.fresh hO2)
              have I2 := hide (hO2.owi (Nat.succ_le_of_lt L0.out.bx.lt))
              refine hK.out _ _ (HS.out _ b2.out) (fun hH2 => ?_)
              clear hK K hO2 E1
              refine wpAnyH_ready (rs := [9]) (by kernel_rfl) (by simp) ?_
              refine AllReadyH.cons (o := ({ dst := some 28, op := Op.buildSlice 23 1 #[(0, Operand.tmp 27)], type := 23, pos := _, after := _, guard := _ } : Oper)) rfl (fun K hK => ?_) AllReadyH.nil
              · go_simp
                have hb3 : Below w2.heap.size w2 (w2.alloc (.cells #[(.slice a2 l.length c2)] 38)) := (Below.refl _ _).alloc (Nat.le_refl _) _
                have L3 := hide (L2.out.of hb3)
                have b3 := hide (b2.out.trans (hb3.mono (Nat.le_of_lt L2.out.bx.lt)))
                have I3 := hide (I2.out.keep hb3)
                have Y3 := hide (C1.new w2 (.slice a2 l.length c2) 38)
                refine hK.out _ _ (HS.out _ b3.out) (fun hH3 => ?_)
                clear hK K hb3
                obtain ⟨w3, hw3⟩ : ∃ z9, z9 = (w2.alloc (.cells #[(.slice a2 l.length c2)] 38)) := ⟨_, rfl⟩
                rw [← hw3] at hH3 L3 b3 Y3 I3 ⊢
                clear hw3
                generalize w2.heap.size = nc at *
                refine wpAnyH_ready (rs := [10]) (by kernel_rfl) (by simp) ?_
                refine AllReadyH.cons (o := ({ dst := some 29, op := Op.call { callee := Callee.builtin Builtin.append, args := #[Operand.tmp 20, Operand.tmp 28], argTypes := #[23, 23] }, type := 23, pos := _, after := _, guard := _ } : Oper)) rfl (fun K hK => ?_) AllReadyH.nil
                · refine wp_appR' w3 (q2 + 1) (.tmp 20) (.tmp 28) rfl _ es (.slice a2 l.length c2) nc rfl L3.out.os Y3.out.c rfl rfl ?_ (Nat.succ_le_of_lt L3.out.bx.lt) ?_
                  · (have t1 := L3.out.inn.1; dsimp only at t1; rw [List.length_take] at t1; omega)
                  intro a4 c4 w4 hO4 hg4
                  have b4 := hide (L3.out.belR b3.out hg4)
                  refine hK.out _ _ (HS.out _ b4.out) (fun hH4 => ?_)
                  clear hK K
                  replace hO4 := hide hO4
                  replace hg4 := hide hg4
                  refine wpAnyH_take (i := 11) (oi := ({ dst := some 30, op := Op.fieldAddr 25 (Operand.tmp 3) 2, type := 0, pos := _, after := _, guard := _ } : Oper)) (v := ?_) rfl (by kernel_rfl) (by kernel_rfl) (by kernel_rfl) (fun _ _ _ h => h) (Or.inl ⟨by rfl, ?_⟩) (by assumption) ?_
                  rotate_left
                  · (intro wz hSw; (try dsimp only at hSw); go_simp; try with_reducible rfl)
                  simp only [Act.put, List.setIfInBounds_toArray, List.set_cons_zero, List.set_cons_succ]
                  refine wpAnyH_ready (rs := [12]) (by kernel_rfl) (by simp) ?_
                  refine AllReadyH.cons (o := ({ dst := none, op := Op.store 23 (Operand.tmp 30) (Operand.tmp 29), type := 0, pos := _, after := _, guard := _ } : Oper)) rfl (fun K hK => ?_) AllReadyH.nil
                  · have zb := (L3.out.boxR hg4.out).1
                    have zf := (L3.out.boxR hg4.out).2
                    have z0 := zb.c0
                    have z1 := zb.c1
                    have z2 := zb.c2
                    have y0 := zf.f0
                    have y1 := zf.f1
                    have y2 := zf.f2
                    clear zb zf
                    go_simp
                    have L5 := hide (L3.out.appR (by decide) I3.out DD.out hO4.out hg4.out)
                    have b5 := hide (b4.out.setCell (p := ⟨q2, 2, none⟩) (Nat.le_refl _) (.slice a4 (es.length + 1) c4))
                    refine hK.out _ _ (HS.out _ b5.out) (fun hH5 => ?_)
                    clear hK K z0 z1 z2 y0 y1 y2
                    obtain ⟨w5, hw5⟩ : ∃ z9, z9 = w4.setCell ⟨q2, 2, none⟩ (.slice a4 (es.length + 1) c4) := ⟨_, rfl⟩
                    rw [← hw5] at hH5 L5 b5  ⊢
                    clear hw5
                    refine wpAnyH_done (by kernel_rfl) ?_ _
                    clear HS
                    go_wp2_with fail
                    exact ⟨⟨k + 1, _, _, by simp, by omega, ⟨⟨KW2.out.1.of (b5.out.block q0 FQ.out.1), KW2.out.2.1.of (b5.out.block q1 FQ.out.2), KW2.out.2.2.of (b5.out.block q1 FQ.out.2)⟩, by rw [take_more HX.out]; exact L5.out, BW2.out.trans (b5.out.mono FQ2.out)⟩⟩, by simp [intOf]; omega⟩
          · refine wp_appZ w0 w1 (.tmp 21) (.tmp 26) rfl _ E1.out rfl ai ci l rfl (HI.out _ b1.out) HN.out hll9 ?_
            intro a2 c2 w2 hO2
            have L2 := hide (L0.out.of hO2.bel)
            have b2 := hide (b0.out.trans (hO2.bel.mono (Nat.le_of_lt L0.out.bx.lt)))
            have DD := hide (L0.out.inn.fresh hO2)
            have I2 := hide (hO2.owi (Nat.succ_le_of_lt L0.out.bx.lt))
            refine hK.out _ _ (HS.out _ b2.out) (fun hH2 => ?_)
            clear hK K hO2 E1
            refine wpAnyH_ready (rs := [1, 9]) (by kernel_rfl) (by simp) ?_
            refine AllReadyH.cons (o := ({ dst := some 20, op := Op.load 23 (Operand.tmp 19), type := 23, pos := _, after := _, guard := _ } : Oper)) rfl (fun K hK => ?_) (AllReadyH.cons (o := ({ dst := some 28, op := Op.buildSlice 23 1 #[(0, Operand.tmp 27)], type := 23, pos := _, after := _, guard := _ } : Oper)) rfl (fun K hK => ?_) AllReadyH.nil)
            · have zc := L2.out.bx.c2
              go_simp
              refine hK.out _ _ hH2 (fun _ => ?_)
              clear hK K zc
              refine wpAnyH_ready (rs := [9]) (by kernel_rfl) (by simp) ?_
              refine AllReadyH.cons (o := ({ dst := some 28, op := Op.buildSlice 23 1 #[(0, Operand.tmp 27)], type := 23, pos := _, after := _, guard := _ } : Oper)) rfl (fun K hK => ?_) AllReadyH.nil
              · go_simp
                have hb3 : Below w2.heap.size w2 (w2.alloc (.cells #[(.slice a2 l.length c2)] 38)) := (Below.refl _ _).alloc (Nat.le_refl _) _
                have L3 := hide (L2.out.of hb3)
                have b3 := hide (b2.out.trans (hb3.mono (Nat.le_of_lt L2.out.bx.lt)))
                have I3 := hide (I2.out.keep hb3)
                have Y3 := hide (C1.new w2 (.slice a2 l.length c2) 38)
                refine hK.out _ _ (HS.out _ b3.out) (fun hH3 => ?_)
                clear hK K hb3
                obtain ⟨w3, hw3⟩ : ∃ z9, z9 = (w2.alloc (.cells #[(.slice a2 l.length c2)] 38)) := ⟨_, rfl⟩
                rw [← hw3] at hH3 L3 b3 Y3 I3 ⊢
                clear hw3
                generalize w2.heap.size = nc at *
                refine wpAnyH_ready (rs := [10]) (by kernel_rfl) (by simp) ?_
                refine AllReadyH.cons (o := ({ dst := some 29, op := Op.call { callee := Callee.builtin Builtin.append, args := #[Operand.tmp 20, Operand.tmp 28], argTypes := #[23, 23] }, type := 23, pos := _, after := _, guard := _ } : Oper)) rfl (fun K hK => ?_) AllReadyH.nil
                · refine wp_appR' w3 (q2 + 1) (.tmp 20) (.tmp 28) rfl _ es (.slice a2 l.length c2) nc rfl L3.out.os Y3.out.c rfl rfl ?_ (Nat.succ_le_of_lt L3.out.bx.lt) ?_
                  · (have t1 := L3.out.inn.1; dsimp only at t1; rw [List.length_take] at t1; omega)
                  intro a4 c4 w4 hO4 hg4
                  have b4 := hide (L3.out.belR b3.out hg4)
                  refine hK.out _ _ (HS.out _ b4.out) (fun hH4 => ?_)
                  clear hK K
                  replace hO4 := hide hO4
                  replace hg4 := hide hg4
                  refine wpAnyH_take (i := 11) (oi := ({ dst := some 30, op := Op.fieldAddr 25 (Operand.tmp 3) 2, type := 0, pos := _, after := _, guard := _ } : Oper)) (v := ?_) rfl (by kernel_rfl) (by kernel_rfl) (by kernel_rfl) (fun _ _ _ h => h) (Or.inl ⟨by rfl, ?_⟩) (by assumption) ?_
                  rotate_left
                  · (intro wz hSw; (try dsimp only at hSw); go_simp; try with_reducible rfl)
                  simp only [Act.put, List.setIfInBounds_toArray, List.set_cons_zero, List.set_cons_succ]
                  refine wpAnyH_ready (rs := [12]) (by kernel_rfl) (by simp) ?_
                  refine AllReadyH.cons (o := ({ dst := none, op := Op.store 23 (Operand.tmp 30) (Operand.tmp 29), type := 0, pos := _, after := _, guard := _ } : Oper)) rfl (fun K hK => ?_) AllReadyH.nil
                  · have zb := (L3.out.boxR hg4.out).1
                    have zf := (L3.out.boxR hg4.out).2
                    have z0 := zb.c0
                    have z1 := zb.c1
                    have z2 := zb.c2
                    have y0 := zf.f0
                    have y1 := zf.f1
                    have y2 := zf.f2
                    clear zb zf
                    go_simp
                    have L5 := hide (L3.out.appR (by decide) I3.out DD.out hO4.out hg4.out)
                    have b5 := hide (b4.out.setCell (p := ⟨q2, 2, none⟩) (Nat.le_refl _) (.slice a4 (es.length + 1) c4))
                    refine hK.out _ _ (HS.out _ b5.out) (fun hH5 => ?_)
                    clear hK K z0 z1 z2 y0 y1 y2
                    obtain ⟨w5, hw5⟩ : ∃ z9, z9 = w4.setCell ⟨q2, 2, none⟩ (.slice a4 (es.length + 1) c4) := ⟨_, rfl⟩
                    rw [← hw5] at hH5 L5 b5  ⊢
                    clear hw5
                    refine wpAnyH_done (by kernel_rfl) ?_ _
                    clear HS
                    go_wp2_with fail
                    exact ⟨⟨k + 1, _, _, by simp, by omega, ⟨⟨KW2.out.1.of (b5.out.block q0 FQ.out.1), KW2.out.2.1.of (b5.out.block q1 FQ.out.2), KW2.out.2.2.of (b5.out.block q1 FQ.out.2)⟩, by rw [take_more HX.out]; exact L5.out, BW2.out.trans (b5.out.mono FQ2.out)⟩⟩, by simp [intOf]; omega⟩
            · go_simp
              have hb3 : Below w2.heap.size w2 (w2.alloc (.cells #[(.slice a2 l.length c2)] 38)) := (Below.refl _ _).alloc (Nat.le_refl _) _
              have L3 := hide (L2.out.of hb3)
              have b3 := hide (b2.out.trans (hb3.mono (Nat.le_of_lt L2.out.bx.lt)))
              have I3 := hide (I2.out.keep hb3)
              have Y3 := hide (C1.new w2 (.slice a2 l.length c2) 38)
              refine hK.out _ _ (HS.out _ b3.out) (fun hH3 => ?_)
              clear hK K hb3
              obtain ⟨w3, hw3⟩ : ∃ z9, z9 = (w2.alloc (.cells #[(.slice a2 l.length c2)] 38)) := ⟨_, rfl⟩
              rw [← hw3] at hH3 L3 b3 Y3 I3 ⊢
              clear hw3
              generalize w2.heap.size = nc at *
              refine wpAnyH_ready (rs := [1]) (by kernel_rfl) (by simp) ?_
              refine AllReadyH.cons (o := ({ dst := some 20, op := Op.load 23 (Operand.tmp 19), type := 23, pos := _, after := _, guard := _ } : Oper)) rfl (fun K hK => ?_) AllReadyH.nil
              · have zc := L3.out.bx.c2
                go_simp
                refine hK.out _ _ hH3 (fun _ => ?_)
                clear hK K zc
                refine wpAnyH_ready (rs := [10]) (by kernel_rfl) (by simp) ?_
                refine AllReadyH.cons (o := ({ dst := some 29, op := Op.call { callee := Callee.builtin Builtin.append, args := #[Operand.tmp 20, Operand.tmp 28], argTypes := #[23, 23] }, type := 23, pos := _, after := _, guard := _ } : Oper)) rfl (fun K hK => ?_) AllReadyH.nil
                · refine wp_appR' w3 (q2 + 1) (.tmp 20) (.tmp 28) rfl _ es (.slice a2 l.length c2) nc rfl L3.out.os Y3.out.c rfl rfl ?_ (Nat.succ_le_of_lt L3.out.bx.lt) ?_
                  · (have t1 := L3.out.inn.1; dsimp only at t1; rw [List.length_take] at t1; omega)
                  intro a4 c4 w4 hO4 hg4
                  have b4 := hide (L3.out.belR b3.out hg4)
                  refine hK.out _ _ (HS.out _ b4.out) (fun hH4 => ?_)
                  clear hK K
                  replace hO4 := hide hO4
                  replace hg4 := hide hg4
                  refine wpAnyH_take (i := 11) (oi := ({ dst := some 30, op := Op.fieldAddr 25 (Operand.tmp 3) 2, type := 0, pos := _, after := _, guard := _ } : Oper)) (v := ?_) rfl (by kernel_rfl) (by kernel_rfl) (by kernel_rfl) (fun _ _ _ h => h) (Or.inl ⟨by rfl, ?_⟩) (by assumption) ?_
                  rotate_left
                  · (intro wz hSw; (try dsimp only at hSw); go_simp; try with_reducible rfl)
                  simp only [Act.put, List.setIfInBounds_toArray, List.set_cons_zero, List.set_cons_succ]
                  refine wpAnyH_ready (rs := [12]) (by kernel_rfl) (by simp) ?_
                  refine AllReadyH.cons (o := ({ dst := none, op := Op.store 23 (Operand.tmp 30) (Operand.tmp 29), type := 0, pos := _, after := _, guard := _ } : Oper)) rfl (fun K hK => ?_) AllReadyH.nil
                  · have zb := (L3.out.boxR hg4.out).1
                    have zf := (L3.out.boxR hg4.out).2
                    have z0 := zb.c0
                    have z1 := zb.c1
                    have z2 := zb.c2
                    have y0 := zf.f0
                    have y1 := zf.f1
                    have y2 := zf.f2
                    clear zb zf
                    go_simp
                    have L5 := hide (L3.out.appR (by decide) I3.out DD.out hO4.out hg4.out)
                    have b5 := hide (b4.out.setCell (p := ⟨q2, 2, none⟩) (Nat.le_refl _) (.slice a4 (es.length + 1) c4))
                    refine hK.out _ _ (HS.out _ b5.out) (fun hH5 => ?_)
                    clear hK K z0 z1 z2 y0 y1 y2
                    obtain ⟨w5, hw5⟩ : ∃ z9, z9 = w4.setCell ⟨q2, 2, none⟩ (.slice a4 (es.length + 1) c4) := ⟨_, rfl⟩
                    rw [← hw5] at hH5 L5 b5  ⊢
                    clear hw5
                    refine wpAnyH_done (by kernel_rfl) ?_ _
                    clear HS
                    go_wp2_with fail
                    exact ⟨⟨k + 1, _, _, by simp, by omega, ⟨⟨KW2.out.1.of (b5.out.block q0 FQ.out.1), KW2.out.2.1.of (b5.out.block q1 FQ.out.2), KW2.out.2.2.of (b5.out.block q1 FQ.out.2)⟩, by rw [take_more HX.out]; exact L5.out, BW2.out.trans (b5.out.mono FQ2.out)⟩⟩, by simp [intOf]; omega⟩
      · have hke : k = ss.length := by omega
        subst hke
        have h6 := h5.out
        rw [List.take_of_length_le (Nat.le_refl _)] at h6
        have h4 := hide h6
        clear h5 h6
        obtain ⟨a8, c8, rfl, -, -⟩ := h4.out.2.1.os.slice
        have e0 := h4.out.2.1.bx.c0
        have e1 := h4.out.2.1.bx.c1
        have e2 := h4.out.2.1.bx.c2
        have g0 := h4.out.1.2.1.c0
        have g1 := h4.out.1.2.1.c1
        have g2 := h4.out.1.2.1.c2
        have f0 := h4.out.1.2.2.f0
        have f1 := h4.out.1.2.2.f1
        have f2 := h4.out.1.2.2.f2
        have G1 := hide (And.intro (h4.out.1.2.1.put3 r (.slice a5 vs.length c5) (.slice a8 es.length c8)) (And.intro ((h4.out.2.1.far3 q1 r (.slice a5 vs.length c5) (.slice a8 es.length c8) (Nat.lt_succ_of_lt FQ.out.2) HN1.out (Nat.ne_of_lt FQ.out.2)).own (N := w.heap.size) (by have := HQ.out; have := HN1.out; omega) (by have := FQ2.out; omega)) (st3_below h4.out.2.2 q1 HQ.out.1 r (.slice a5 vs.length c5) (.slice a8 es.length c8))))
        clear h4
        go_wp2_with fail
        have y0 := G1.out.1.c0
        have y1 := G1.out.1.c1
        have y2 := G1.out.1.c2
        clear e0 e1 e2 g0 g1 g2 f0 f1 f2
        exact bodyPost_ret (by simp [results, Try.results68, go_sem, y0, y1, y2]; try rfl) rfl ⟨_, rfl, G1.out.2.1, G1.out.2.2⟩
end Go.Proofs.Ytmhicllhjiglkaa
namespace Go.Proofs.Ytmhicllhjiglkaa
open Go.RowKit
/-- a slice of numbers that lies in none of these blocks -/
def Rlp (w : World) (L : List Nat) (e : Value) (l : List Int) : Prop := ∃ a c, e = .slice a l.length c ∧ (∀ (i : Nat) (y : Int), l[i]? = some y → ∃ b o, a = some ⟨b, o, none⟩ ∧ b ∉ L ∧ w.cell? ⟨b, o + i, none⟩ = some (.int .i64 y)) ∧ l.length ≤ c ∧ (a = none → c = 0)
/-- a State as a value, whose rows lie in none of these blocks -/
def Rp (w : World) (L : List Nat) (v : Value) (s : S) : Prop := ∃ a c b d, v = .agg #[.bool s.r, .slice a s.vs.length c, .slice b s.ss.length d] ∧
  (∀ (m : Nat) (x : R), s.vs[m]? = some x → ∃ b o, a = some ⟨b, o, none⟩ ∧ b ∉ L ∧ B6 w b (o + m * 6) x) ∧
  (∀ (m : Nat) (l : List Int), s.ss[m]? = some l → ∃ b' o e, b = some ⟨b', o, none⟩ ∧ b' ∉ L ∧ w.cell? ⟨b', o + m, none⟩ = some e ∧ Rlp w L e l) ∧
  s.vs.length ≤ c ∧ s.ss.length ≤ d ∧ (a = none → c = 0) ∧ (b = none → d = 0)
theorem Rp.rs {w : World} {L : List Nat} {v : Value} {s : S} (h : Rp w L v s) : Rs w v s := by
  obtain ⟨a, c, b, d, h1, h2, h3, h4⟩ := h
  refine ⟨a, c, b, d, h1, fun m x hx => ?_, fun m l hl => ?_, h4⟩
  · obtain ⟨b1, o1, e1, _, e2⟩ := h2 m x hx
    exact ⟨b1, o1, e1, e2⟩
  · obtain ⟨b1, o1, e, e1, _, e2, ai, ci, rfl, e3, e4⟩ := h3 m l hl
    refine ⟨b1, o1, _, e1, e2, ai, ci, rfl, fun i y hy => ?_, e4⟩
    obtain ⟨b2, o2, rfl, _, hc⟩ := e3 i y hy
    exact ⟨b2, o2, rfl, hc⟩
theorem Rn.rp {w : World} {N : Nat} {v : Value} {s : S} (h : Rn w N v s) {L : List Nat} (hL : ∀ k ∈ L, k < N) : Rp w L v s := by
  obtain ⟨a, c, b, d, h1, h2, h3, h4⟩ := h
  refine ⟨a, c, b, d, h1, fun m x hx => ?_, fun m l hl => ?_, h4⟩
  · obtain ⟨b1, o1, e1, e0, e2⟩ := h2 m x hx
    exact ⟨b1, o1, e1, fun t => by have := hL _ t; omega, e2⟩
  · obtain ⟨b1, o1, e, e1, e0, e2, ⟨ai, ci, rfl, e3, e5⟩, e4⟩ := h3 m l hl
    refine ⟨b1, o1, _, e1, fun t => by have := hL _ t; omega, e2, ai, ci, rfl, fun i y hy => ?_, e5⟩
    obtain ⟨b2, o2, rfl, hc⟩ := e3 i y hy
    exact ⟨b2, o2, rfl, fun t => by have := hL _ t; have := e4 b2 rfl; omega, hc⟩
/-- it stays where all blocks that stood stay, but these -/
theorem Rp.of {w w' : World} {L L' : List Nat} {v : Value} {s : S} (h : Rp w L v s) (hL : ∀ k ∈ L', k ∈ L ∨ w.heap.size ≤ k) (hb : ∀ k, k ∉ L → k < w.heap.size → w'.heap[k]? = w.heap[k]?) : Rp w' L' v s := by
  obtain ⟨a, c, b, d, h1, h2, h3, h4⟩ := h
  have nin : ∀ k, k ∉ L → k < w.heap.size → k ∉ L' := fun k h1 h2 h3 => by rcases hL k h3 with t | t; exact h1 t; omega
  refine ⟨a, c, b, d, h1, fun m x hx => ?_, fun m l hl => ?_, h4⟩
  · obtain ⟨b1, o1, e1, e0, e2⟩ := h2 m x hx
    exact ⟨b1, o1, e1, nin _ e0 e2.lt, e2.of (hb b1 e0 e2.lt)⟩
  · obtain ⟨b1, o1, e, e1, e0, e2, ai, ci, rfl, k1, k2⟩ := h3 m l hl
    have l1 := World.block_lt_of_cell? w _ e2
    refine ⟨b1, o1, _, e1, nin _ e0 l1, (World.cell?_of_block (a := ⟨b1, o1 + m, none⟩) (hb b1 e0 l1)).trans e2, ai, ci, rfl, fun i y hy => ?_, k2⟩
    obtain ⟨b2, o2, rfl, e5, hc⟩ := k1 i y hy
    have l2 := World.block_lt_of_cell? w _ hc
    exact ⟨b2, o2, rfl, nin _ e5 l2, (World.cell?_of_block (a := ⟨b2, o2 + i, none⟩) (hb b2 e5 l2)).trans hc⟩
theorem Bs.far3 {w : World} {q p : Nat} {r : Bool} {va sa : Value} (h : Bs w q r va sa) (hp : q ≠ p) (r1 : Bool) (va1 sa1 : Value) : Bs (st3 w p r1 va1 sa1) q r va sa := h.of (st3_block w p r1 va1 sa1 q hp)
end Go.Proofs.Ytmhicllhjiglkaa
namespace Go.Proofs.Ytmhicllhjiglkaa
open Go.RowKit
set_option maxRecDepth 100000 in
set_option maxHeartbeats 4000000 in
theorem hasReg_any (r : Bool) (a b : Option Addr) (n c d : Nat) (i : Int) (w : World) :
    Calls Try.prog 67 #[.agg #[.bool r, .slice a n c, .slice b n d], .int .i64 i] w fun e w' => e = .returned (.bool (decide (r = true ∧ 0 ≤ i ∧ i < (n : Int)))) ∧ Below w.heap.size w w' := by
  have cC := fun w => count_any r a b n c d w
  cases r with
  | false =>
    go_enter Try.func67, Try.ntmps67
    go_wp2
    go_ret
    exact ⟨by simp, (by repeat (first | exact Below.refl _ _ | (refine Below.alloc ?_ (by first | omega | (simp; done) | (simp; omega)) _)))⟩
  | true =>
    by_cases h0 : (0 : Int) ≤ i
    · go_enter Try.func67, Try.ntmps67
      go_upto_region 1 with fail
      go_name_world W hW
      obtain ⟨B0, -, u⟩ := box1 w _ _ _ _ W hW
      have HU := hide u
      have x0 := B0.c0
      have x1 := B0.c1
      have x2 := B0.c2
      clear hW B0 u
      by_cases h1 : i < (n : Int)
      · go_wp2_with (go_at_call 86; refine (cC _).mono ?_; rintro e wA ⟨rfl, hA⟩; replace hA := hide hA; clear cC x0 x1 x2)
        go_ret
        exact ⟨by simp; intros; omega, HU.out.trans (hA.out.mono HU.out.size)⟩
      · go_wp2_with (go_at_call 86; refine (cC _).mono ?_; rintro e wA ⟨rfl, hA⟩; replace hA := hide hA; clear cC x0 x1 x2)
        go_ret
        exact ⟨by simp; intros; omega, HU.out.trans (hA.out.mono HU.out.size)⟩
    · go_enter Try.func67, Try.ntmps67
      go_wp2
      go_ret
      exact ⟨by simp; intros; omega, (by repeat (first | exact Below.refl _ _ | (refine Below.alloc ?_ (by first | omega | (simp; done) | (simp; omega)) _)))⟩
theorem own3_form {w : World} {B : Nat} {T : TypeId} {v : Value} {s : S} (h : Own3 w B T v s) : ∃ a c b d es, v = .agg #[.bool s.r, .slice a s.vs.length c, .slice b s.ss.length d] ∧ OwV w B T (.slice a s.vs.length c) s.vs ∧ OwR w B (.slice b s.ss.length d) es ∧ Inn w B es s.ss ∧ Dis es := by
  obtain ⟨va, sa, es, rfl, h1, h2, h3, h4⟩ := h
  obtain ⟨a, c, rfl, -, -⟩ := h1.slice
  obtain ⟨b, d, e, -, -⟩ := h2.slice
  subst e
  have e2 := h3.1
  rw [e2] at h2
  exact ⟨a, c, b, d, es, by rw [e2], h1, h2, h3, h4⟩
/-- a State's box, a Value's, and the result's -/
theorem boxes_sv (w : World) (r : Bool) (va sa : Value) (y : R) (t0 t1 t2 : TypeId) : ∀ W, ((w.alloc (.cells #[.bool r, va, sa] t0)).alloc (.cells #[.int .i64 y.s, .bool y.k, .int .i64 y.n, .int .i64 y.lo, .int .i64 y.hi, .int .i64 y.p] t1)).alloc (.cells #[.bool false, .slice none 0 0, .slice none 0 0] t2) = W →
    Bs W w.heap.size r va sa ∧ B6 W (w.heap.size + 1) 0 y ∧ Bs W (w.heap.size + 1 + 1) false (.slice none 0 0) (.slice none 0 0) ∧ Fs W (w.heap.size + 1 + 1) ∧ Below w.heap.size w W := by
  rintro W rfl
  have sz : ∀ (u : World) (o : Obj), (u.alloc o).heap.size = u.heap.size + 1 := fun u o => by simp
  have u1 : Below w.heap.size w (w.alloc (.cells #[.bool r, va, sa] t0)) := (Below.refl _ _).alloc (Nat.le_refl _) _
  have B0 := Bs.new w r va sa t0
  have S0 := sz w (.cells #[.bool r, va, sa] t0)
  generalize w.alloc (.cells #[.bool r, va, sa] t0) = A at *
  have u2 : Below A.heap.size A (A.alloc (.cells #[.int .i64 y.s, .bool y.k, .int .i64 y.n, .int .i64 y.lo, .int .i64 y.hi, .int .i64 y.p] t1)) := (Below.refl _ _).alloc (Nat.le_refl _) _
  have B1 := B6.new A y t1
  have S1 := sz A (.cells #[.int .i64 y.s, .bool y.k, .int .i64 y.n, .int .i64 y.lo, .int .i64 y.hi, .int .i64 y.p] t1)
  generalize A.alloc (.cells #[.int .i64 y.s, .bool y.k, .int .i64 y.n, .int .i64 y.lo, .int .i64 y.hi, .int .i64 y.p] t1) = C at *
  have u3 : Below C.heap.size C (C.alloc (.cells #[.bool false, .slice none 0 0, .slice none 0 0] t2)) := (Below.refl _ _).alloc (Nat.le_refl _) _
  have B2 := Bs.new C false (.slice none 0 0) (.slice none 0 0) t2
  have F2 := Fs.new C false (.slice none 0 0) (.slice none 0 0) t2
  generalize C.alloc (.cells #[.bool false, .slice none 0 0, .slice none 0 0] t2) = D at *
  rw [S0] at B1
  rw [S1, S0] at B2 F2
  have e0 : D.heap[w.heap.size]? = A.heap[w.heap.size]? := (u3.block _ (by omega)).trans (u2.block _ (by omega))
  have e1 : D.heap[w.heap.size + 1]? = C.heap[w.heap.size + 1]? := u3.block _ (by omega)
  exact ⟨B0.of e0, B1.of e1, B2, F2, (u1.trans (u2.mono (by omega))).trans (u3.mono (by omega))⟩
abbrev st6o (w : World) (g o : Nat) (a b c d e f : Value) : World := (((((w.setCell ⟨g, o, none⟩ a).setCell ⟨g, o + 1, none⟩ b).setCell ⟨g, o + 2, none⟩ c).setCell ⟨g, o + 3, none⟩ d).setCell ⟨g, o + 4, none⟩ e).setCell ⟨g, o + 5, none⟩ f
theorem st6o_block (w : World) (g o : Nat) (a b c d e f : Value) (k : Nat) (h : k ≠ g) : (st6o w g o a b c d e f).heap[k]? = w.heap[k]? :=
  (set_block _ g _ _ k h).trans ((set_block _ g _ _ k h).trans ((set_block _ g _ _ k h).trans ((set_block _ g _ _ k h).trans ((set_block _ g _ _ k h).trans (set_block _ g _ _ k h)))))
theorem st6o_far (w : World) (g o p : Nat) (a b c d e f : Value) (h : p < o ∨ o + 5 < p) : (st6o w g o a b c d e f).cell? ⟨g, p, none⟩ = w.cell? ⟨g, p, none⟩ := by
  have ne : ∀ j : Nat, j ≠ p → (⟨g, j, none⟩ : Addr) ≠ ⟨g, p, none⟩ := fun j hj t => hj (by injection t)
  unfold st6o
  rw [World.cell?_setCell_other _ _ _ _ (ne _ (by omega)), World.cell?_setCell_other _ _ _ _ (ne _ (by omega)), World.cell?_setCell_other _ _ _ _ (ne _ (by omega)), World.cell?_setCell_other _ _ _ _ (ne _ (by omega)), World.cell?_setCell_other _ _ _ _ (ne _ (by omega)), World.cell?_setCell_other _ _ _ _ (ne _ (by omega))]
theorem st6o_at {w : World} {g o : Nat} {x : R} (h : B6 w g o x) (y : R) : B6 (st6o w g o (.int .i64 y.s) (.bool y.k) (.int .i64 y.n) (.int .i64 y.lo) (.int .i64 y.hi) (.int .i64 y.p)) g o y := by
  have c0 := h.c0
  have c1 := h.c1
  have c2 := h.c2
  have c3 := h.c3
  have c4 := h.c4
  have c5 := h.c5
  refine ⟨?_, ?_, ?_, ?_, ?_, ?_⟩ <;> simp [go_sem, *]
theorem st6o_below {N : Nat} {w0 w : World} (h : Below N w0 w) (g o : Nat) (hg : N ≤ g) (a b c d e f : Value) : Below N w0 (st6o w g o a b c d e f) :=
  (((((h.setCell (p := ⟨g, o, none⟩) hg a).setCell (p := ⟨g, o + 1, none⟩) hg b).setCell (p := ⟨g, o + 2, none⟩) hg c).setCell (p := ⟨g, o + 3, none⟩) hg d).setCell (p := ⟨g, o + 4, none⟩) hg e).setCell (p := ⟨g, o + 5, none⟩) hg f
theorem rv_set {w : World} {g k : Nat} {vs : List R} (h : RV w (some ⟨g, 0, none⟩) vs) (hk : k < vs.length) (y : R) : RV (st6o w g (k * 6) (.int .i64 y.s) (.bool y.k) (.int .i64 y.n) (.int .i64 y.lo) (.int .i64 y.hi) (.int .i64 y.p)) (some ⟨g, 0, none⟩) (vs.set k y) := by
  intro m x hx
  refine ⟨g, 0, rfl, ?_⟩
  rw [Nat.zero_add]
  by_cases e : m = k
  · subst e
    rw [List.getElem?_set_self hk] at hx
    obtain rfl := Option.some.inj hx
    obtain ⟨b, o, eq, h6⟩ := h m (vs[m]) (by simp [hk])
    obtain ⟨rfl, rfl⟩ : g = b ∧ 0 = o := by simpa using eq
    rw [Nat.zero_add] at h6
    exact st6o_at h6 y
  · rw [List.getElem?_set_ne (fun t => e t.symm)] at hx
    obtain ⟨b, o, eq, h6⟩ := h m x hx
    obtain ⟨rfl, rfl⟩ : g = b ∧ 0 = o := by simpa using eq
    rw [Nat.zero_add] at h6
    exact ⟨(st6o_far _ _ _ _ _ _ _ _ _ _ (by omega)).trans h6.c0, (st6o_far _ _ _ _ _ _ _ _ _ _ (by omega)).trans h6.c1, (st6o_far _ _ _ _ _ _ _ _ _ _ (by omega)).trans h6.c2, (st6o_far _ _ _ _ _ _ _ _ _ _ (by omega)).trans h6.c3, (st6o_far _ _ _ _ _ _ _ _ _ _ (by omega)).trans h6.c4, (st6o_far _ _ _ _ _ _ _ _ _ _ (by omega)).trans h6.c5⟩
theorem Rl.far {w w' : World} {e : Value} {l : List Int} {g : Nat} (h : Rl w e l) (hne : ∀ k, e.ownBlock = some k → k ≠ g) (hb : ∀ k, k ≠ g → w'.heap[k]? = w.heap[k]?) : Rl w' e l := by
  obtain ⟨a, c, rfl, h1, h2⟩ := h
  refine ⟨a, c, rfl, fun i y hy => ?_, h2⟩
  obtain ⟨b, o, rfl, hc⟩ := h1 i y hy
  exact ⟨b, o, rfl, (World.cell?_of_block (a := ⟨b, o + i, none⟩) (hb b (hne b rfl))).trans hc⟩
theorem rr_set {w : World} {N gs n d k : Nat} {es : List Value} {ss : List (List Int)} {e' : Value} {l' : List Int} (hO : OwR w N (.slice (some ⟨gs, 0, none⟩) n d) es) (hI : Inn w N es ss) (hk : k < ss.length) (he : Rl w e' l') (hne : ∀ k', e'.ownBlock = some k' → k' ≠ gs) (hN : ∀ k', e'.ownBlock = some k' → N ≤ k') : ∀ m l, (ss.set k l')[m]? = some l → ∃ e, (w.setCell ⟨gs, k, none⟩ e').cell? ⟨gs, 0 + m, none⟩ = some e ∧ Rl (w.setCell ⟨gs, k, none⟩ e') e l ∧ ∀ k', e.ownBlock = some k' → N ≤ k' := by
  have fr : ∀ k', k' ≠ gs → (w.setCell ⟨gs, k, none⟩ e').heap[k']? = w.heap[k']? := fun k' h => set_block w gs k e' k' h
  intro m l hm
  by_cases e : m = k
  · subst e
    rw [List.getElem?_set_self hk] at hm
    obtain rfl := Option.some.inj hm
    obtain ⟨e2, h1, _⟩ := hI.2 m (ss[m]) (by simp [hk])
    obtain ⟨b, o, eq, h3⟩ := hO.cell h1
    obtain ⟨rfl, rfl⟩ : gs = b ∧ 0 = o := by simpa using eq
    rw [Nat.zero_add] at h3
    exact ⟨e', by rw [Nat.zero_add]; simp [go_sem, h3], he.far hne fr, hN⟩
  · rw [List.getElem?_set_ne (fun t => e t.symm)] at hm
    obtain ⟨e2, h1, h2⟩ := hI.2 m l hm
    obtain ⟨b, o, eq, h3⟩ := hO.cell h1
    obtain ⟨rfl, rfl⟩ : gs = b ∧ 0 = o := by simpa using eq
    have hne2 : (⟨gs, k, none⟩ : Addr) ≠ ⟨gs, 0 + m, none⟩ := fun t => e (by injection t with _ t2; omega)
    exact ⟨e2, (World.cell?_setCell_other _ _ _ _ hne2).trans h3, (h2.of (fun k' hk' => fr k' (fun t => own_ne h2 hO (by decide) k' hk' (by rw [t]; rfl)))).rl, fun k' hk' => (h2.lt k' hk').1⟩
theorem OwV.some9 {w : World} {B n c : Nat} {T : TypeId} {a : Option Addr} {vs : List R} (h : OwV w B T (.slice a n c) vs) (hn : 0 < n) : ∃ g, a = some ⟨g, 0, none⟩ ∧ ∀ j, w.frozen? ⟨g, j, none⟩ = false := by
  rcases h.2 with ⟨e, h2⟩ | ⟨g, cap, cur, e, _, hg, _⟩
  · simp only [Value.slice.injEq] at e
    omega
  · simp only [Value.slice.injEq] at e
    refine ⟨g, e.1, fun j => ?_⟩
    simp [World.frozen?, hg]
theorem OwR.some9 {w : World} {B n c : Nat} {a : Option Addr} {es : List Value} (h : OwR w B (.slice a n c) es) (hn : 0 < n) : ∃ g, a = some ⟨g, 0, none⟩ ∧ ∀ j, w.frozen? ⟨g, j, none⟩ = false := by
  rcases h.2 with ⟨e, h2⟩ | ⟨g, cap, cur, e, _, hg, _⟩
  · simp only [Value.slice.injEq] at e
    omega
  · simp only [Value.slice.injEq] at e
    refine ⟨g, e.1, fun j => ?_⟩
    simp [World.frozen?, hg]
/-- a box behind rows of the call's own -/
structure Lz (w : World) (N q : Nat) (T : TypeId) (s : S) (va sa : Value) (es : List Value) : Prop where
  bx : Bs w q s.r va sa
  fz : Fs w q
  ov : OwV w N T va s.vs
  os : OwR w N sa es
  inn : Inn w N es s.ss
  dis : Dis es
  lv : ∀ k, va.ownBlock = some k → k < q
  ls : ∀ k, sa.ownBlock = some k → k < q
  li : ∀ e ∈ es, ∀ k, e.ownBlock = some k → k < q
theorem Lz.of {w w' : World} {N q : Nat} {T : TypeId} {s : S} {va sa : Value} {es : List Value} (h : Lz w N q T s va sa es) (hb : Below w.heap.size w w') : Lz w' N q T s va sa es :=
  ⟨h.bx.keep hb, h.fz.of (hb.block q h.bx.lt), h.ov.keep hb, h.os.of (fun k hk => hb.block k (h.os.lt k hk).2), ⟨h.inn.1, fun m l hm => by
    obtain ⟨e, h1, h2⟩ := h.inn.2 m l hm
    exact ⟨e, h1, h2.keep hb⟩⟩, h.dis, h.lv, h.ls, h.li⟩
theorem Lz.rs {w : World} {N q : Nat} {T : TypeId} {s : S} {va sa : Value} {es : List Value} (h : Lz w N q T s va sa es) : Rs w (.agg #[.bool s.r, va, sa]) s := by
  obtain ⟨a, c, rfl, h1, h2⟩ := h.ov.slice
  obtain ⟨b, d, e, h3, h4⟩ := h.os.slice
  have ho := h.os
  have hn := h.inn
  rw [hn.1] at e h3
  subst e
  exact ⟨a, c, b, d, rfl, h.ov.rv, Inn.rr ho hn, h1, h3, h2, h4⟩
theorem Lz.start {wB : World} {N : Nat} {T t : TypeId} {s : S} {va sa : Value} {es : List Value} (h1 : OwV wB N T va s.vs) (h2 : OwR wB N sa es) (h3 : Inn wB N es s.ss) (h4 : Dis es) : Lz (wB.alloc (.cells #[.bool s.r, va, sa] t)) N wB.heap.size T s va sa es := by
  have u : Below wB.heap.size wB (wB.alloc (.cells #[.bool s.r, va, sa] t)) := (Below.refl _ _).alloc (Nat.le_refl _) _
  exact ⟨Bs.new _ _ _ _ _, Fs.new _ _ _ _ _, h1.keep u, h2.of (fun k hk => u.block k (h2.lt k hk).2), ⟨h3.1, fun m l hm => by obtain ⟨e, k1, k2⟩ := h3.2 m l hm; exact ⟨e, k1, k2.keep u⟩⟩, h4, fun k hk => (h1.lt k hk).2, fun k hk => (h2.lt k hk).2, h3.lt9⟩
theorem Rp.put9 {w : World} {k : Nat} {v : Value} {s : S} (h : Rp w [k] v s) (r : Bool) (va sa : Value) : Rp (st3 w k r va sa) [k] v s := h.of (fun _ t => .inl t) (fun j hj _ => st3_block w k r va sa j (fun e => hj (e ▸ List.mem_singleton.2 rfl)))
theorem Rs.st3far {w : World} {v : Value} {s : S} {q : Nat} (h : Rp w [q] v s) (r : Bool) (va sa : Value) : Rs (st3 w q r va sa) v s := (h.put9 r va sa).rs
theorem Lz.rn {w : World} {N q : Nat} {T : TypeId} {s : S} {va sa : Value} {es : List Value} (h : Lz w N q T s va sa es) : Rn w N (.agg #[.bool s.r, va, sa]) s := by
  have hn := h.inn
  have hlv := h.ov.lt
  have hls := h.os.lt
  obtain ⟨a, c, rfl, k1, k2⟩ := h.ov.slice
  have hov := h.ov.rv
  obtain ⟨b, d, e, k3, k4⟩ := h.os.slice
  subst e
  have hos := h.os
  rw [hn.1] at k3
  refine ⟨a, c, b, d, by rw [hn.1], fun m x hx => ?_, fun m l hl => ?_, k1, k3, k2, k4⟩
  · obtain ⟨b1, o1, rfl, e2⟩ := hov m x hx
    exact ⟨b1, o1, rfl, (hlv b1 rfl).1, e2⟩
  · obtain ⟨e, k5, k6⟩ := hn.2 m l hl
    obtain ⟨b1, o1, rfl, k7⟩ := hos.cell k5
    exact ⟨b1, o1, e, rfl, (hls b1 rfl).1, k7, k6.rl, fun k hk => (k6.lt k hk).1⟩
end Go.Proofs.Ytmhicllhjiglkaa
