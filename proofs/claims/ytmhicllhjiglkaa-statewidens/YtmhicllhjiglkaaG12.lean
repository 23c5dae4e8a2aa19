import Derived.Test.YtmhicllhjiglkaaG11
import Derived.Deep.RegionHeld3
import Derived.Test.YtmhicllhjiglkaaG01
import Derived.Test.YtmhicllhjiglkaaG04
namespace Go.Proofs.Ytmhicllhjiglkaa
open Go.RowKit
/-- a State in a box: its Values' row lies elsewhere -/
structure Lo2 (w : World) (B1 B q : Nat) (T : TypeId) (s : S) (va sa : Value) (es : List Value) : Prop where
  bx : Bs w q s.r va sa
  fz : Fs w q
  ov : OwV w B1 T va s.vs
  os : OwR w B sa es
  inn : Inn w B es s.ss
  qB : q < B
  nv : ∀ k, va.ownBlock = some k → k ≠ q
theorem Lo2.of {w w' : World} {B1 B q : Nat} {T : TypeId} {s : S} {va sa : Value} {es : List Value} (h : Lo2 w B1 B q T s va sa es) (hb : Below w.heap.size w w') : Lo2 w' B1 B q T s va sa es :=
  ⟨h.bx.keep hb, h.fz.of (hb.block q h.bx.lt), h.ov.keep hb, h.os.of (fun k hk => hb.block k (h.os.lt k hk).2), ⟨h.inn.1, fun m l hm => by
    obtain ⟨e, h1, h2⟩ := h.inn.2 m l hm
    exact ⟨e, h1, h2.keep hb⟩⟩, h.qB, h.nv⟩
theorem Lo2.boxR {w w' : World} {B1 B q : Nat} {T : TypeId} {s : S} {va sa : Value} {es : List Value} (h : Lo2 w B1 B q T s va sa es) (hg : w.grownBy w' sa.ownBlock) : Bs w' q s.r va sa ∧ Fs w' q :=
  have q1 : w'.heap[q]? = w.heap[q]? := hg.block q h.bx.lt (fun e => by have := (h.os.lt q e.symm).1; have := h.qB; omega)
  ⟨h.bx.of q1, h.fz.of q1⟩
theorem Lo2.belR {W w w' : World} {B1 B q : Nat} {T : TypeId} {s : S} {va sa : Value} {es : List Value} (h : Lo2 w B1 B q T s va sa es) (hb : Below q W w) (hg : w.grownBy w' sa.ownBlock) : Below q W w' :=
  hb.grown hg (Nat.le_of_lt h.bx.lt) (fun k hk => by have := (h.os.lt k hk).1; have := h.qB; omega)
theorem Lo2.appR {w w' : World} {B1 B q : Nat} {T : TypeId} {s : S} {va sa sa' e : Value} {es : List Value} {l : List Int} (h : Lo2 w B1 B q T s va sa es) (hT : T ≠ 38) (he : OwI w B e l) (ho : OwR w' B sa' (es ++ [e])) (hg : w.grownBy w' sa.ownBlock) : Lo2 (w'.setCell ⟨q, 2, none⟩ sa') B1 B q T ⟨s.r, s.vs, s.ss ++ [l]⟩ va sa' (es ++ [e]) := by
  have hq : some q ≠ sa.ownBlock := fun t => by have := (h.os.lt q t.symm).1; have := h.qB; omega
  have q1 : w'.heap[q]? = w.heap[q]? := hg.block q h.bx.lt hq
  have far : ∀ k, k ≠ q → (w'.setCell ⟨q, 2, none⟩ sa').heap[k]? = w'.heap[k]? := fun k hk => set_block w' q 2 sa' k hk
  have inn2 : Inn w B (es ++ [e]) (s.ss ++ [l]) := h.inn.app he
  refine ⟨(h.bx.of q1).put2 sa', (h.fz.of q1).put _ _, h.ov.of (fun k hk => ?_), ho.of (fun k hk => far k (by have := (ho.lt k hk).1; have := h.qB; omega)), ⟨inn2.1, fun m l2 hm => ?_⟩, h.qB, h.nv⟩
  · exact (far k (h.nv k hk)).trans (hg.block k (h.ov.lt k hk).2 (own_ne h.ov h.os hT k hk))
  · obtain ⟨e2, h1, h2⟩ := inn2.2 m l2 hm
    exact ⟨e2, h1, h2.of (fun k hk => (far k (by have := (h2.lt k hk).1; have := h.qB; omega)).trans (hg.block k (h2.lt k hk).2 (own_ne h2 h.os (by decide) k hk)))⟩
theorem Lo2.rn {w : World} {N B1 B q : Nat} {T : TypeId} {s : S} {va sa : Value} {es : List Value} (h : Lo2 w B1 B q T s va sa es) (h1 : N ≤ B1) (h2 : N ≤ B) : Rn w N (.agg #[.bool s.r, va, sa]) s := by
  have hn := h.inn
  have hlv := h.ov.lt
  have hls := h.os.lt
  obtain ⟨a, c, rfl, k1, k2⟩ := h.ov.slice
  have hov := h.ov.rv
  obtain ⟨b, d, e, k3, k4⟩ := h.os.slice
  subst e
  have hos := h.os
  rw [hn.1] at k3
  refine ⟨a, c, b, d, by rw [hn.1], fun m x hx => ?_, fun m l hl => ?_, k1, k3, k2, k4⟩
  · obtain ⟨b1, o1, rfl, e2⟩ := hov m x hx
    exact ⟨b1, o1, rfl, Nat.le_trans h1 (hlv b1 rfl).1, e2⟩
  · obtain ⟨e, k5, k6⟩ := hn.2 m l hl
    obtain ⟨b1, o1, rfl, k7⟩ := hos.cell k5
    exact ⟨b1, o1, e, rfl, Nat.le_trans h2 (hls b1 rfl).1, k7, k6.rl, fun k hk => Nat.le_trans h2 (k6.lt k hk).1⟩
theorem Lo2.far3 {w : World} {B1 B q : Nat} {T : TypeId} {s : S} {va sa : Value} {es : List Value} (h : Lo2 w B1 B q T s va sa es) (p : Nat) (r : Bool) (v1 v2 : Value) (hp : p < B) (hp1 : p < B1) (hne : p ≠ q) : Lo2 (st3 w p r v1 v2) B1 B q T s va sa es := by
  have e : ∀ k, k ≠ p → (st3 w p r v1 v2).heap[k]? = w.heap[k]? := fun k hk => st3_block w p r v1 v2 k hk
  refine ⟨h.bx.of (e q (fun t => hne t.symm)), h.fz.of (e q (fun t => hne t.symm)), h.ov.of (fun k hk => e k (by have := (h.ov.lt k hk).1; omega)), h.os.of (fun k hk => e k (by have := (h.os.lt k hk).1; omega)), ⟨h.inn.1, fun m l hm => ?_⟩, h.qB, h.nv⟩
  obtain ⟨e2, h1, h2⟩ := h.inn.2 m l hm
  exact ⟨e2, h1, h2.of (fun k hk => e k (by have := (h2.lt k hk).1; omega))⟩
set_option maxRecDepth 100000 in
set_option maxHeartbeats 8000000 in
theorem copy_S (a b : Option Addr) (c d : Nat) (r : Bool) (vs : List R) (ss : List (List Int)) (w : World) (hv : RV w a vs) (hs : RR w b ss) (hvc : vs.length ≤ c) (hva : a = none → c = 0) (hl1 : vs.length ≤ 100000) (hl2 : ss.length ≤ 100000) (hl3 : ∀ (m : Nat) (l : List Int), ss[m]? = some l → l.length ≤ 100000) :
    Calls Try.prog 22 #[.agg #[.bool r, .slice a vs.length c, .slice b ss.length d]] w fun e w' => ∃ v, e = .returned v ∧ Rn w' w.heap.size v ⟨r, vs, ss⟩ ∧ Below w.heap.size w w' := by
  have HVw := hide hv
  have HRw := hide hs
  have HL3 := hide hl3
  clear hv hs hl3
  go_enter Try.func22, Try.ntmps22
  go_upto_region 1 with fail
  go_name_world W hW
  obtain ⟨q1, h1⟩ : ∃ z9, z9 = w.heap.size + 1 := ⟨_, rfl⟩
  rw [← h1]
  obtain ⟨q0, h0⟩ : ∃ z9, z9 = w.heap.size := ⟨_, rfl⟩
  rw [← h0]
  obtain ⟨B0, -, B1, F1, u⟩ := boxes2 w _ _ _ _ _ _ _ _ W hW
  rw [← h0] at B0
  rw [← h1] at B1 F1
  have KW : Hid (Bs W q0 r (.slice a vs.length c) (.slice b ss.length d) ∧ Bs W q1 false (.slice none 0 0) (.slice none 0 0) ∧ Fs W q1) := ⟨B0, B1, F1⟩
  have BW := hide u
  have HQ : Hid (w.heap.size ≤ q1 ∧ q0 < q1) := hide (by omega)
  have HV := hide (HVw.out.keep u)
  have HS : Hid (∀ w', Below W.heap.size W w' → (w'.cell? ⟨q0, 0, none⟩ = some (.bool r) ∧ w'.cell? ⟨q0, 1, none⟩ = some (.slice a vs.length c) ∧ w'.cell? ⟨q0, 2, none⟩ = some (.slice b ss.length d))) := fun w' h => by
    have t := KW.out.1.keep h
    exact ⟨t.c0, t.c1, t.c2⟩
  clear hW h1 h0 B0 B1 F1 u
  obtain ⟨N1, hN1⟩ : ∃ z9, z9 = W.heap.size := ⟨_, rfl⟩
  have HN1 : Hid (q1 < N1) := hide (by rw [hN1]; exact KW.out.2.1.lt)
  replace hN1 := hide hN1
  go_cut [3] (fun s3 wx => ∃ (q2 : Nat) (a5 : Option Addr) (c5 : Nat), s3 = .pointer (some ⟨q2, 0, none⟩) ∧ W.heap.size ≤ q2 ∧ Hid ((Bs wx q0 r (.slice a vs.length c) (.slice b ss.length d) ∧ Bs wx q1 false (.slice none 0 0) (.slice none 0 0) ∧ Fs wx q1) ∧ Lo2 wx W.heap.size (q2 + 1) q2 53 ⟨r, vs, []⟩ (.slice a5 vs.length c5) (.slice none 0 0) [] ∧ Below w.heap.size w wx))
  case first =>
    refine wp_region_held_drew (S := fun w' => w'.cell? ⟨q0, 0, none⟩ = some (.bool r) ∧ w'.cell? ⟨q0, 1, none⟩ = some (.slice a vs.length c) ∧ w'.cell? ⟨q0, 2, none⟩ = some (.slice b ss.length d)) (by kernel_rfl) (HS.out _ (Below.refl _ _).drew) (fun hH0 => ?_)
    obtain ⟨w0, hw0⟩ : ∃ w0, w0 = W.drew := ⟨_, rfl⟩
    (try rw [← hw0] at hH0)
    rw [← hw0]
    have b0 : Hid (Below W.heap.size W w0) := hw0 ▸ hide (Below.refl _ _).drew
    clear hw0
    refine wpAnyH_take (i := 0) (oi := ({ dst := some 6, op := Op.fieldAddr 29 (Operand.tmp 1) 0, type := 0, pos := "state.go:53", after := #[], guard := none } : Oper)) (v := ?_) rfl (by kernel_rfl) (by kernel_rfl) (by kernel_rfl) (fun _ _ _ h => h) (Or.inl ⟨by rfl, ?_⟩) (by assumption) ?_
    rotate_left
    · (intro wz hSw; (try dsimp only at hSw); go_simp; try with_reducible rfl)
    simp only [Act.put, List.setIfInBounds_toArray, List.set_cons_zero, List.set_cons_succ]
    refine wpAnyH_take (i := 1) (oi := ({ dst := some 7, op := Op.load 4 (Operand.tmp 6), type := 4, pos := "state.go:53", after := #[{ on := 0, ground := Ground.data }], guard := none } : Oper)) (v := ?_) rfl (by kernel_rfl) (by kernel_rfl) (by kernel_rfl) (fun _ _ _ h => h) (Or.inl ⟨by rfl, ?_⟩) (by assumption) ?_
    rotate_left
    · (intro wz hSw; (try dsimp only at hSw); go_simp; try with_reducible rfl)
    simp only [Act.put, List.setIfInBounds_toArray, List.set_cons_zero, List.set_cons_succ]
    refine wpAnyH_take (i := 2) (oi := ({ dst := some 8, op := Op.fieldAddr 29 (Operand.tmp 1) 1, type := 0, pos := "state.go:53", after := #[], guard := none } : Oper)) (v := ?_) rfl (by kernel_rfl) (by kernel_rfl) (by kernel_rfl) (fun _ _ _ h => h) (Or.inl ⟨by rfl, ?_⟩) (by assumption) ?_
    rotate_left
    · (intro wz hSw; (try dsimp only at hSw); go_simp; try with_reducible rfl)
    simp only [Act.put, List.setIfInBounds_toArray, List.set_cons_zero, List.set_cons_succ]
    refine wpAnyH_take (i := 3) (oi := ({ dst := some 9, op := Op.load 27 (Operand.tmp 8), type := 27, pos := "state.go:53", after := #[{ on := 2, ground := Ground.data }], guard := none } : Oper)) (v := ?_) rfl (by kernel_rfl) (by kernel_rfl) (by kernel_rfl) (fun _ _ _ h => h) (Or.inl ⟨by rfl, ?_⟩) (by assumption) ?_
    rotate_left
    · (intro wz hSw; (try dsimp only at hSw); go_simp; try with_reducible rfl)
    simp only [Act.put, List.setIfInBounds_toArray, List.set_cons_zero, List.set_cons_succ]
    refine wpAnyH_ready (rs := [4, 6]) (by kernel_rfl) (by simp) ?_
    refine AllReadyH.cons (o := ({ dst := some 10, op := Op.call { callee := Callee.value (Operand.func 57), args := #[Operand.tmp 9], argTypes := #[27] }, type := 27, pos := "state.go:53", after := #[{ on := 3, ground := Ground.data }], guard := none } : Oper)) rfl (fun K hK => ?_) (AllReadyH.cons (o := ({ dst := some 3, op := Op.alloc 29, type := 0, pos := "state.go:53", after := #[], guard := none } : Oper)) rfl (fun K hK => ?_) AllReadyH.nil)
    · go_simp
      go_at_call 57
      refine (cloneV vs a c _ (HV.out.keep b0.out) hvc hva hl1).mono ?_
      rintro e w1 ⟨v, rfl, hO, hb1⟩
      obtain ⟨a5, c5, rfl, -, -⟩ := hO.slice
      have b1 := hide (b0.out.trans (hb1.mono b0.out.size))
      have O1 : Hid (OwV w1 W.heap.size 53 (.slice a5 vs.length c5) vs) := ownsRow_mono hO b0.out.size
      refine hK.out _ _ (HS.out _ b1.out) (fun hH1 => ?_)
      clear hK K hb1 hO
      refine wpAnyH_take (i := 5) (oi := ({ dst := some 11, op := Op.build 29 #[(0, Operand.tmp 7), (1, Operand.tmp 10)], type := 29, pos := "state.go:53", after := #[{ on := 1, ground := Ground.data }, { on := 4, ground := Ground.data }], guard := none } : Oper)) (v := ?_) rfl (by kernel_rfl) (by kernel_rfl) (by kernel_rfl) (fun _ _ _ h => h) (Or.inl ⟨by rfl, ?_⟩) (by assumption) ?_
      rotate_left
      · (intro wz hSw; (try dsimp only at hSw); go_simp; try with_reducible rfl)
      simp only [Act.put, List.setIfInBounds_toArray, List.set_cons_zero, List.set_cons_succ]
      refine wpAnyH_ready (rs := [6]) (by kernel_rfl) (by simp) ?_
      refine AllReadyH.cons (o := ({ dst := some 3, op := Op.alloc 29, type := 0, pos := "state.go:53", after := #[], guard := none } : Oper)) rfl (fun K hK => ?_) AllReadyH.nil
      · go_simp
        have hb2 : Below w1.heap.size w1 (w1.alloc (.cells #[.bool false, .slice none 0 0, .slice none 0 0] 29)) := (Below.refl _ _).alloc (Nat.le_refl _) _
        have b2 := hide (b1.out.trans (hb2.mono b1.out.size))
        have X2 := hide (And.intro (Bs.new w1 false (.slice none 0 0) (.slice none 0 0) 29) (Fs.new w1 false (.slice none 0 0) (.slice none 0 0) 29))
        have NV : Hid (∀ k, Value.ownBlock (.slice a5 vs.length c5) = some k → k ≠ w1.heap.size) := hide (fun k hk => by have := (O1.out.lt k hk).2; omega)
        have O2 := hide (O1.out.keep hb2)
        have NQ : Hid (W.heap.size ≤ w1.heap.size) := hide b1.out.size
        refine hK.out _ _ (HS.out _ b2.out) (fun hH2 => ?_)
        clear hK K hb2
        obtain ⟨w2, hw2⟩ : ∃ z9, z9 = (w1.alloc (.cells #[.bool false, .slice none 0 0, .slice none 0 0] 29)) := ⟨_, rfl⟩
        rw [← hw2] at hH2 X2 b2 O2 ⊢
        clear hw2
        generalize w1.heap.size = q2 at *
        refine wpAnyH_ready (rs := [7]) (by kernel_rfl) (by simp) ?_
        refine AllReadyH.cons (o := ({ dst := none, op := Op.store 29 (Operand.tmp 3) (Operand.tmp 11), type := 0, pos := "state.go:53", after := #[{ on := 6, ground := Ground.data }, { on := 5, ground := Ground.data }, { on := 4, ground := Ground.chain }, { on := 0, ground := Ground.phase }, { on := 1, ground := Ground.phase }, { on := 2, ground := Ground.phase }, { on := 3, ground := Ground.phase }, { on := 4, ground := Ground.phase }, { on := 5, ground := Ground.phase }, { on := 6, ground := Ground.phase }], guard := none } : Oper)) rfl (fun K hK => ?_) AllReadyH.nil
        · have z0 := X2.out.1.c0
          have z1 := X2.out.1.c1
          have z2 := X2.out.1.c2
          have y0 := X2.out.2.f0
          have y1 := X2.out.2.f1
          have y2 := X2.out.2.f2
          go_simp
          have X3 := hide (And.intro (X2.out.1.put3 r (.slice a5 vs.length c5) (.slice none 0 0)) (X2.out.2.put3 (p := q2) r (.slice a5 vs.length c5) (.slice none 0 0)))
          have b3 := hide (st3_below b2.out q2 NQ.out r (.slice a5 vs.length c5) (.slice none 0 0))
          have O3 := hide (O2.out.of (fun k hk => st3_block w2 q2 r (.slice a5 vs.length c5) (.slice none 0 0) k (NV.out k hk)))
          refine hK.out _ _ (HS.out _ b3.out) (fun hH3 => ?_)
          clear hK K z0 z1 z2 y0 y1 y2
          refine wpAnyH_done (by kernel_rfl) ?_ _
          go_wp2_with fail
          go_meet
          case rel => exact ⟨q2, a5, c5, rfl, NQ.out, ⟨KW.out.1.of (b3.out.block q0 KW.out.1.lt), KW.out.2.1.of (b3.out.block q1 KW.out.2.1.lt), KW.out.2.2.of (b3.out.block q1 KW.out.2.1.lt)⟩, ⟨X3.out.1, X3.out.2, O3.out, OwR.nil _ _, Inn.nil _ _, Nat.lt_succ_self _, NV.out⟩, BW.out.trans (b3.out.mono BW.out.size)⟩
    · go_simp
      have hb1 : Below w0.heap.size w0 (w0.alloc (.cells #[.bool false, .slice none 0 0, .slice none 0 0] 29)) := (Below.refl _ _).alloc (Nat.le_refl _) _
      have b1 := hide (b0.out.trans (hb1.mono b0.out.size))
      have X1 := hide (And.intro (Bs.new w0 false (.slice none 0 0) (.slice none 0 0) 29) (Fs.new w0 false (.slice none 0 0) (.slice none 0 0) 29))
      have NQ : Hid (W.heap.size ≤ w0.heap.size) := hide b0.out.size
      refine hK.out _ _ (HS.out _ b1.out) (fun hH1 => ?_)
      clear hK K hb1
      obtain ⟨w1, hw1⟩ : ∃ z9, z9 = (w0.alloc (.cells #[.bool false, .slice none 0 0, .slice none 0 0] 29)) := ⟨_, rfl⟩
      rw [← hw1] at hH1 X1 b1  ⊢
      clear hw1
      generalize w0.heap.size = q2 at *
      refine wpAnyH_ready (rs := [4]) (by kernel_rfl) (by simp) ?_
      refine AllReadyH.cons (o := ({ dst := some 10, op := Op.call { callee := Callee.value (Operand.func 57), args := #[Operand.tmp 9], argTypes := #[27] }, type := 27, pos := "state.go:53", after := #[{ on := 3, ground := Ground.data }], guard := none } : Oper)) rfl (fun K hK => ?_) AllReadyH.nil
      · go_simp
        go_at_call 57
        refine (cloneV vs a c _ (HV.out.keep b1.out) hvc hva hl1).mono ?_
        rintro e w2 ⟨v, rfl, hO, hb2⟩
        obtain ⟨a5, c5, rfl, -, -⟩ := hO.slice
        have b2 := hide (b1.out.trans (hb2.mono b1.out.size))
        have X2 := hide (And.intro (X1.out.1.keep hb2) (X1.out.2.of (hb2.block q2 X1.out.1.lt)))
        have NV : Hid (∀ k, Value.ownBlock (.slice a5 vs.length c5) = some k → k ≠ q2) := hide (fun k hk => by have := (hO.lt k hk).1; have := X1.out.1.lt; omega)
        have O2 : Hid (OwV w2 W.heap.size 53 (.slice a5 vs.length c5) vs) := ownsRow_mono hO b1.out.size
        refine hK.out _ _ (HS.out _ b2.out) (fun hH2 => ?_)
        clear hK K hb2 hO
        refine wpAnyH_take (i := 5) (oi := ({ dst := some 11, op := Op.build 29 #[(0, Operand.tmp 7), (1, Operand.tmp 10)], type := 29, pos := "state.go:53", after := #[{ on := 1, ground := Ground.data }, { on := 4, ground := Ground.data }], guard := none } : Oper)) (v := ?_) rfl (by kernel_rfl) (by kernel_rfl) (by kernel_rfl) (fun _ _ _ h => h) (Or.inl ⟨by rfl, ?_⟩) (by assumption) ?_
        rotate_left
        · (intro wz hSw; (try dsimp only at hSw); go_simp; try with_reducible rfl)
        simp only [Act.put, List.setIfInBounds_toArray, List.set_cons_zero, List.set_cons_succ]
        refine wpAnyH_ready (rs := [7]) (by kernel_rfl) (by simp) ?_
        refine AllReadyH.cons (o := ({ dst := none, op := Op.store 29 (Operand.tmp 3) (Operand.tmp 11), type := 0, pos := "state.go:53", after := #[{ on := 6, ground := Ground.data }, { on := 5, ground := Ground.data }, { on := 4, ground := Ground.chain }, { on := 0, ground := Ground.phase }, { on := 1, ground := Ground.phase }, { on := 2, ground := Ground.phase }, { on := 3, ground := Ground.phase }, { on := 4, ground := Ground.phase }, { on := 5, ground := Ground.phase }, { on := 6, ground := Ground.phase }], guard := none } : Oper)) rfl (fun K hK => ?_) AllReadyH.nil
        · have z0 := X2.out.1.c0
          have z1 := X2.out.1.c1
          have z2 := X2.out.1.c2
          have y0 := X2.out.2.f0
          have y1 := X2.out.2.f1
          have y2 := X2.out.2.f2
          go_simp
          have X3 := hide (And.intro (X2.out.1.put3 r (.slice a5 vs.length c5) (.slice none 0 0)) (X2.out.2.put3 (p := q2) r (.slice a5 vs.length c5) (.slice none 0 0)))
          have b3 := hide (st3_below b2.out q2 NQ.out r (.slice a5 vs.length c5) (.slice none 0 0))
          have O3 := hide (O2.out.of (fun k hk => st3_block w2 q2 r (.slice a5 vs.length c5) (.slice none 0 0) k (NV.out k hk)))
          refine hK.out _ _ (HS.out _ b3.out) (fun hH3 => ?_)
          clear hK K z0 z1 z2 y0 y1 y2
          refine wpAnyH_done (by kernel_rfl) ?_ _
          go_wp2_with fail
          go_meet
          case rel => exact ⟨q2, a5, c5, rfl, NQ.out, ⟨KW.out.1.of (b3.out.block q0 KW.out.1.lt), KW.out.2.1.of (b3.out.block q1 KW.out.2.1.lt), KW.out.2.2.of (b3.out.block q1 KW.out.2.1.lt)⟩, ⟨X3.out.1, X3.out.2, O3.out, OwR.nil _ _, Inn.nil _ _, Nat.lt_succ_self _, NV.out⟩, BW.out.trans (b3.out.mono BW.out.size)⟩
  case rest =>
    obtain ⟨q2, a5, c5, rfl, hq2, h4⟩ := hcut
    rw [← hN1.out] at h4 hq2
    have FQ : Hid (q0 < q2 ∧ q1 < q2) := hide (by have := HQ.out; have := HN1.out; omega)
    have FQ2 : Hid (w.heap.size ≤ q2) := hide (by have := HQ.out; have := HN1.out; omega)
    clear HS HV KW BW hN1
    have e2 := h4.out.1.1.c2
    go_upto_region 3 with fail
    clear e2
    go_wp2_with fail
    go_loopw [5, 15] (fun s5 s15 wr => ∃ (k : Nat) (sa : Value) (es : List Value), s15 = .int .i64 k ∧ k ≤ ss.length ∧ Hid ((Bs wr q0 r (.slice a vs.length c) (.slice b ss.length d) ∧ Bs wr q1 false (.slice none 0 0) (.slice none 0 0) ∧ Fs wr q1) ∧ Lo2 wr N1 (q2 + 1) q2 53 ⟨r, vs, ss.take k⟩ (.slice a5 vs.length c5) sa es ∧ Below w.heap.size w wr)) (fun _ s15 _ => ss.length - (intOf s15).toNat)
    case atStart => exact ⟨0, _, _, rfl, Nat.zero_le _, h4.out⟩
    case round =>
      obtain ⟨k, sa, es, rfl, hk, h5⟩ := hrel
      clear h4
      by_cases hks : k < ss.length
      · have hks2 : (k : Int) < ss.length := by omega
        obtain ⟨b2, o2, l, ai, ci, hX2, rfl, hc1, hc2, hlc, hln⟩ := HRw.out.at hks
        have HX := hide hX2
        have hll := HL3.out k l hX2
        have g2 := (h5.out.2.2.cell (p := ⟨b2, o2 + k, none⟩) (World.block_lt_of_cell? w _ hc1)).trans hc1
        have HI0 := hide hc2
        clear hX2 hc1 hc2
        go_upto_region 5 with fail
        go_name_world W5 hW5
        rw [hW5] at h5
        clear hW5 g2
        have KW2 := hide h5.out.1
        have LW := hide h5.out.2.1
        have BW2 := hide h5.out.2.2
        have HI : Hid (∀ w', Below q2 W5 w' → Ri w' ai l) := hide (fun w' h => HI0.out.keep' (BW2.out.trans (h.mono FQ2.out)))
        clear h5
        refine wp_region_held_drew (S := fun w' => True) (by kernel_rfl) trivial (fun hH0 => ?_)
        obtain ⟨w0, hw0⟩ : ∃ w0, w0 = W5.drew := ⟨_, rfl⟩
        (try rw [← hw0] at hH0)
        rw [← hw0]
        have L0 : Hid (Lo2 w0 N1 (q2 + 1) q2 53 ⟨r, vs, ss.take k⟩ (.slice a5 vs.length c5) sa es) := hw0 ▸ hide (LW.out.of (Below.refl _ _).drew)
        have b0 : Hid (Below q2 W5 w0) := hw0 ▸ hide (Below.refl _ _).drew
        clear hw0
        refine wpAnyH_take (i := 0) (oi := ({ dst := some 19, op := Op.fieldAddr 29 (Operand.tmp 3) 2, type := 0, pos := "state.go:55", after := #[], guard := none } : Oper)) (v := ?_) rfl (by kernel_rfl) (by kernel_rfl) (by kernel_rfl) (fun _ _ _ h => h) (Or.inl ⟨by rfl, ?_⟩) (by assumption) ?_
        rotate_left
        · (intro wz hSw; (try dsimp only at hSw); go_simp; try with_reducible rfl)
        simp only [Act.put, List.setIfInBounds_toArray, List.set_cons_zero, List.set_cons_succ]
        refine wpAnyH_take (i := 2) (oi := ({ dst := some 21, op := Op.move (Operand.tmp 5), type := 38, pos := "state.go:55", after := #[], guard := none } : Oper)) (v := ?_) rfl (by kernel_rfl) (by kernel_rfl) (by kernel_rfl) (fun _ _ _ h => h) (Or.inl ⟨by rfl, ?_⟩) (by assumption) ?_
        rotate_left
        · (intro wz hSw; (try dsimp only at hSw); go_simp; try with_reducible rfl)
        simp only [Act.put, List.setIfInBounds_toArray, List.set_cons_zero, List.set_cons_succ]
        refine wpAnyH_ready (rs := [1, 3]) (by kernel_rfl) (by simp) ?_
        refine AllReadyH.cons (o := ({ dst := some 20, op := Op.load 23 (Operand.tmp 19), type := 23, pos := "state.go:55", after := #[{ on := 0, ground := Ground.data }], guard := none } : Oper)) rfl (fun K hK => ?_) (AllReadyH.cons (o := ({ dst := some 22, op := Op.call { callee := Callee.value (Operand.func 58), args := #[Operand.tmp 21], argTypes := #[38] }, type := 38, pos := "state.go:55", after := #[{ on := 2, ground := Ground.data }], guard := none } : Oper)) rfl (fun K hK => ?_) AllReadyH.nil)
        · have zc := L0.out.bx.c2
          go_simp
          refine hK.out _ _ hH0 (fun _ => ?_)
          clear hK K zc
          refine wpAnyH_ready (rs := [3]) (by kernel_rfl) (by simp) ?_
          refine AllReadyH.cons (o := ({ dst := some 22, op := Op.call { callee := Callee.value (Operand.func 58), args := #[Operand.tmp 21], argTypes := #[38] }, type := 38, pos := "state.go:55", after := #[{ on := 2, ground := Ground.data }], guard := none } : Oper)) rfl (fun K hK => ?_) AllReadyH.nil
          · go_simp
            go_at_call 58
            refine (cloneI l ai ci _ (HI.out _ b0.out) hlc hln hll).mono ?_
            rintro e w1 ⟨v9, rfl, hS⟩
            obtain ⟨ax, cx, rfl⟩ := hS.slice
            have hb1 := hS.bel
            have L1 := hide (L0.out.of hb1)
            have b1 := hide (b0.out.trans (hb1.mono (Nat.le_of_lt L0.out.bx.lt)))
            have I1 := hide (hS.owi (Nat.succ_le_of_lt L0.out.bx.lt))
            refine hK.out _ _ trivial (fun hH1 => ?_)
            clear hK K hb1 hS
            refine wpAnyH_ready (rs := [4]) (by kernel_rfl) (by simp) ?_
            refine AllReadyH.cons (o := ({ dst := some 23, op := Op.buildSlice 23 1 #[(0, Operand.tmp 22)], type := 23, pos := "state.go:55", after := #[{ on := 3, ground := Ground.data }], guard := none } : Oper)) rfl (fun K hK => ?_) AllReadyH.nil
            · go_simp
              have hb2 : Below w1.heap.size w1 (w1.alloc (.cells #[(.slice ax l.length cx)] 38)) := (Below.refl _ _).alloc (Nat.le_refl _) _
              have L2 := hide (L1.out.of hb2)
              have b2 := hide (b1.out.trans (hb2.mono (Nat.le_of_lt L1.out.bx.lt)))
              have I2 := hide (I1.out.keep hb2)
              have Y2 := hide (C1.new w1 (.slice ax l.length cx) 38)
              refine hK.out _ _ trivial (fun hH2 => ?_)
              clear hK K hb2
              obtain ⟨w2, hw2⟩ : ∃ z9, z9 = (w1.alloc (.cells #[(.slice ax l.length cx)] 38)) := ⟨_, rfl⟩
              rw [← hw2] at L2 b2 Y2 I2 ⊢
              clear hw2
              generalize w1.heap.size = nc at *
              refine wpAnyH_ready (rs := [5]) (by kernel_rfl) (by simp) ?_
              refine AllReadyH.cons (o := ({ dst := some 24, op := Op.call { callee := Callee.builtin Builtin.append, args := #[Operand.tmp 20, Operand.tmp 23], argTypes := #[23, 23] }, type := 23, pos := "state.go:55", after := #[{ on := 1, ground := Ground.data }, { on := 4, ground := Ground.data }, { on := 3, ground := Ground.chain }], guard := none } : Oper)) rfl (fun K hK => ?_) AllReadyH.nil
              · refine wp_appR' w2 (q2 + 1) (.tmp 20) (.tmp 23) rfl _ es (.slice ax l.length cx) nc rfl L2.out.os Y2.out.c rfl rfl ?_ (Nat.succ_le_of_lt L2.out.bx.lt) ?_
                · (have t1 := L2.out.inn.1; dsimp only at t1; rw [List.length_take] at t1; omega)
                intro a3 c3 w3 hO3 hg3
                have b3 := hide (L2.out.belR b2.out hg3)
                refine hK.out _ _ trivial (fun hH3 => ?_)
                clear hK K
                replace hO3 := hide hO3
                replace hg3 := hide hg3
                refine wpAnyH_take (i := 6) (oi := ({ dst := some 25, op := Op.fieldAddr 29 (Operand.tmp 3) 2, type := 0, pos := "state.go:55", after := #[{ on := 0, ground := Ground.phase }, { on := 1, ground := Ground.phase }, { on := 2, ground := Ground.phase }, { on := 3, ground := Ground.phase }, { on := 4, ground := Ground.phase }, { on := 5, ground := Ground.phase }], guard := none } : Oper)) (v := ?_) rfl (by kernel_rfl) (by kernel_rfl) (by kernel_rfl) (fun _ _ _ h => h) (Or.inl ⟨by rfl, ?_⟩) (by assumption) ?_
                rotate_left
                · (intro wz hSw; (try dsimp only at hSw); go_simp; try with_reducible rfl)
                simp only [Act.put, List.setIfInBounds_toArray, List.set_cons_zero, List.set_cons_succ]
                refine wpAnyH_ready (rs := [7]) (by kernel_rfl) (by simp) ?_
                refine AllReadyH.cons (o := ({ dst := none, op := Op.store 23 (Operand.tmp 25) (Operand.tmp 24), type := 0, pos := "state.go:55", after := #[{ on := 6, ground := Ground.data }, { on := 5, ground := Ground.data }, { on := 5, ground := Ground.chain }, { on := 0, ground := Ground.phase }, { on := 1, ground := Ground.phase }, { on := 2, ground := Ground.phase }, { on := 3, ground := Ground.phase }, { on := 4, ground := Ground.phase }, { on := 5, ground := Ground.phase }], guard := none } : Oper)) rfl (fun K hK => ?_) AllReadyH.nil
                · have zb := (L2.out.boxR hg3.out).1
                  have zf := (L2.out.boxR hg3.out).2
                  have z0 := zb.c0
                  have z1 := zb.c1
                  have z2 := zb.c2
                  have y0 := zf.f0
                  have y1 := zf.f1
                  have y2 := zf.f2
                  clear zb zf
                  go_simp
                  have L4 := hide (L2.out.appR (by decide) I2.out hO3.out hg3.out)
                  have b4 := hide (b3.out.setCell (p := ⟨q2, 2, none⟩) (Nat.le_refl _) (.slice a3 (es.length + 1) c3))
                  refine hK.out _ _ trivial (fun hH4 => ?_)
                  clear hK K z0 z1 z2 y0 y1 y2
                  obtain ⟨w4, hw4⟩ : ∃ z9, z9 = w3.setCell ⟨q2, 2, none⟩ (.slice a3 (es.length + 1) c3) := ⟨_, rfl⟩
                  rw [← hw4] at L4 b4  ⊢
                  clear hw4
                  refine wpAnyH_done (by kernel_rfl) ?_ _
                  go_wp2_with fail
                  exact ⟨⟨k + 1, _, _, by simp, by omega, ⟨⟨KW2.out.1.of (b4.out.block q0 FQ.out.1), KW2.out.2.1.of (b4.out.block q1 FQ.out.2), KW2.out.2.2.of (b4.out.block q1 FQ.out.2)⟩, by rw [take_more HX.out]; exact L4.out, BW2.out.trans (b4.out.mono FQ2.out)⟩⟩, by simp [intOf]; omega⟩
        · go_simp
          go_at_call 58
          refine (cloneI l ai ci _ (HI.out _ b0.out) hlc hln hll).mono ?_
          rintro e w1 ⟨v9, rfl, hS⟩
          obtain ⟨ax, cx, rfl⟩ := hS.slice
          have hb1 := hS.bel
          have L1 := hide (L0.out.of hb1)
          have b1 := hide (b0.out.trans (hb1.mono (Nat.le_of_lt L0.out.bx.lt)))
          have I1 := hide (hS.owi (Nat.succ_le_of_lt L0.out.bx.lt))
          refine hK.out _ _ trivial (fun hH1 => ?_)
          clear hK K hb1 hS
          refine wpAnyH_ready (rs := [1, 4]) (by kernel_rfl) (by simp) ?_
          refine AllReadyH.cons (o := ({ dst := some 20, op := Op.load 23 (Operand.tmp 19), type := 23, pos := "state.go:55", after := #[{ on := 0, ground := Ground.data }], guard := none } : Oper)) rfl (fun K hK => ?_) (AllReadyH.cons (o := ({ dst := some 23, op := Op.buildSlice 23 1 #[(0, Operand.tmp 22)], type := 23, pos := "state.go:55", after := #[{ on := 3, ground := Ground.data }], guard := none } : Oper)) rfl (fun K hK => ?_) AllReadyH.nil)
          · have zc := L1.out.bx.c2
            go_simp
            refine hK.out _ _ hH1 (fun _ => ?_)
            clear hK K zc
            refine wpAnyH_ready (rs := [4]) (by kernel_rfl) (by simp) ?_
            refine AllReadyH.cons (o := ({ dst := some 23, op := Op.buildSlice 23 1 #[(0, Operand.tmp 22)], type := 23, pos := "state.go:55", after := #[{ on := 3, ground := Ground.data }], guard := none } : Oper)) rfl (fun K hK => ?_) AllReadyH.nil
            · go_simp
              have hb2 : Below w1.heap.size w1 (w1.alloc (.cells #[(.slice ax l.length cx)] 38)) := (Below.refl _ _).alloc (Nat.le_refl _) _
              have L2 := hide (L1.out.of hb2)
              have b2 := hide (b1.out.trans (hb2.mono (Nat.le_of_lt L1.out.bx.lt)))
              have I2 := hide (I1.out.keep hb2)
              have Y2 := hide (C1.new w1 (.slice ax l.length cx) 38)
              refine hK.out _ _ trivial (fun hH2 => ?_)
              clear hK K hb2
              obtain ⟨w2, hw2⟩ : ∃ z9, z9 = (w1.alloc (.cells #[(.slice ax l.length cx)] 38)) := ⟨_, rfl⟩
              rw [← hw2] at L2 b2 Y2 I2 ⊢
              clear hw2
              generalize w1.heap.size = nc at *
              refine wpAnyH_ready (rs := [5]) (by kernel_rfl) (by simp) ?_
              refine AllReadyH.cons (o := ({ dst := some 24, op := Op.call { callee := Callee.builtin Builtin.append, args := #[Operand.tmp 20, Operand.tmp 23], argTypes := #[23, 23] }, type := 23, pos := "state.go:55", after := #[{ on := 1, ground := Ground.data }, { on := 4, ground := Ground.data }, { on := 3, ground := Ground.chain }], guard := none } : Oper)) rfl (fun K hK => ?_) AllReadyH.nil
              · refine wp_appR' w2 (q2 + 1) (.tmp 20) (.tmp 23) rfl _ es (.slice ax l.length cx) nc rfl L2.out.os Y2.out.c rfl rfl ?_ (Nat.succ_le_of_lt L2.out.bx.lt) ?_
                · (have t1 := L2.out.inn.1; dsimp only at t1; rw [List.length_take] at t1; omega)
                intro a3 c3 w3 hO3 hg3
                have b3 := hide (L2.out.belR b2.out hg3)
                refine hK.out _ _ trivial (fun hH3 => ?_)
                clear hK K
                replace hO3 := hide hO3
                replace hg3 := hide hg3
                refine wpAnyH_take (i := 6) (oi := ({ dst := some 25, op := Op.fieldAddr 29 (Operand.tmp 3) 2, type := 0, pos := "state.go:55", after := #[{ on := 0, ground := Ground.phase }, { on := 1, ground := Ground.phase }, { on := 2, ground := Ground.phase }, { on := 3, ground := Ground.phase }, { on := 4, ground := Ground.phase }, { on := 5, ground := Ground.phase }], guard := none } : Oper)) (v := ?_) rfl (by kernel_rfl) (by kernel_rfl) (by kernel_rfl) (fun _ _ _ h => h) (Or.inl ⟨by rfl, ?_⟩) (by assumption) ?_
                rotate_left
                · (intro wz hSw; (try dsimp only at hSw); go_simp; try with_reducible rfl)
                simp only [Act.put, List.setIfInBounds_toArray, List.set_cons_zero, List.set_cons_succ]
                refine wpAnyH_ready (rs := [7]) (by kernel_rfl) (by simp) ?_
                refine AllReadyH.cons (o := ({ dst := none, op := Op.store 23 (Operand.tmp 25) (Operand.tmp 24), type := 0, pos := "state.go:55", after := #[{ on := 6, ground := Ground.data }, { on := 5, ground := Ground.data }, { on := 5, ground := Ground.chain }, { on := 0, ground := Ground.phase }, { on := 1, ground := Ground.phase }, { on := 2, ground := Ground.phase }, { on := 3, ground := Ground.phase }, { on := 4, ground := Ground.phase }, { on := 5, ground := Ground.phase }], guard := none } : Oper)) rfl (fun K hK => ?_) AllReadyH.nil
                · have zb := (L2.out.boxR hg3.out).1
                  have zf := (L2.out.boxR hg3.out).2
                  have z0 := zb.c0
                  have z1 := zb.c1
                  have z2 := zb.c2
                  have y0 := zf.f0
                  have y1 := zf.f1
                  have y2 := zf.f2
                  clear zb zf
                  go_simp
                  have L4 := hide (L2.out.appR (by decide) I2.out hO3.out hg3.out)
                  have b4 := hide (b3.out.setCell (p := ⟨q2, 2, none⟩) (Nat.le_refl _) (.slice a3 (es.length + 1) c3))
                  refine hK.out _ _ trivial (fun hH4 => ?_)
                  clear hK K z0 z1 z2 y0 y1 y2
                  obtain ⟨w4, hw4⟩ : ∃ z9, z9 = w3.setCell ⟨q2, 2, none⟩ (.slice a3 (es.length + 1) c3) := ⟨_, rfl⟩
                  rw [← hw4] at L4 b4  ⊢
                  clear hw4
                  refine wpAnyH_done (by kernel_rfl) ?_ _
                  go_wp2_with fail
                  exact ⟨⟨k + 1, _, _, by simp, by omega, ⟨⟨KW2.out.1.of (b4.out.block q0 FQ.out.1), KW2.out.2.1.of (b4.out.block q1 FQ.out.2), KW2.out.2.2.of (b4.out.block q1 FQ.out.2)⟩, by rw [take_more HX.out]; exact L4.out, BW2.out.trans (b4.out.mono FQ2.out)⟩⟩, by simp [intOf]; omega⟩
          · go_simp
            have hb2 : Below w1.heap.size w1 (w1.alloc (.cells #[(.slice ax l.length cx)] 38)) := (Below.refl _ _).alloc (Nat.le_refl _) _
            have L2 := hide (L1.out.of hb2)
            have b2 := hide (b1.out.trans (hb2.mono (Nat.le_of_lt L1.out.bx.lt)))
            have I2 := hide (I1.out.keep hb2)
            have Y2 := hide (C1.new w1 (.slice ax l.length cx) 38)
            refine hK.out _ _ trivial (fun hH2 => ?_)
            clear hK K hb2
            obtain ⟨w2, hw2⟩ : ∃ z9, z9 = (w1.alloc (.cells #[(.slice ax l.length cx)] 38)) := ⟨_, rfl⟩
            rw [← hw2] at L2 b2 Y2 I2 ⊢
            clear hw2
            generalize w1.heap.size = nc at *
            refine wpAnyH_ready (rs := [1]) (by kernel_rfl) (by simp) ?_
            refine AllReadyH.cons (o := ({ dst := some 20, op := Op.load 23 (Operand.tmp 19), type := 23, pos := "state.go:55", after := #[{ on := 0, ground := Ground.data }], guard := none } : Oper)) rfl (fun K hK => ?_) AllReadyH.nil
            · have zc := L2.out.bx.c2
              go_simp
              refine hK.out _ _ hH2 (fun _ => ?_)
              clear hK K zc
              refine wpAnyH_ready (rs := [5]) (by kernel_rfl) (by simp) ?_
              refine AllReadyH.cons (o := ({ dst := some 24, op := Op.call { callee := Callee.builtin Builtin.append, args := #[Operand.tmp 20, Operand.tmp 23], argTypes := #[23, 23] }, type := 23, pos := "state.go:55", after := #[{ on := 1, ground := Ground.data }, { on := 4, ground := Ground.data }, { on := 3, ground := Ground.chain }], guard := none } : Oper)) rfl (fun K hK => ?_) AllReadyH.nil
              · refine wp_appR' w2 (q2 + 1) (.tmp 20) (.tmp 23) rfl _ es (.slice ax l.length cx) nc rfl L2.out.os Y2.out.c rfl rfl ?_ (Nat.succ_le_of_lt L2.out.bx.lt) ?_
                · (have t1 := L2.out.inn.1; dsimp only at t1; rw [List.length_take] at t1; omega)
                intro a3 c3 w3 hO3 hg3
                have b3 := hide (L2.out.belR b2.out hg3)
                refine hK.out _ _ trivial (fun hH3 => ?_)
                clear hK K
                replace hO3 := hide hO3
                replace hg3 := hide hg3
                refine wpAnyH_take (i := 6) (oi := ({ dst := some 25, op := Op.fieldAddr 29 (Operand.tmp 3) 2, type := 0, pos := "state.go:55", after := #[{ on := 0, ground := Ground.phase }, { on := 1, ground := Ground.phase }, { on := 2, ground := Ground.phase }, { on := 3, ground := Ground.phase }, { on := 4, ground := Ground.phase }, { on := 5, ground := Ground.phase }], guard := none } : Oper)) (v := ?_) rfl (by kernel_rfl) (by kernel_rfl) (by kernel_rfl) (fun _ _ _ h => h) (Or.inl ⟨by rfl, ?_⟩) (by assumption) ?_
                rotate_left
                · (intro wz hSw; (try dsimp only at hSw); go_simp; try with_reducible rfl)
                simp only [Act.put, List.setIfInBounds_toArray, List.set_cons_zero, List.set_cons_succ]
                refine wpAnyH_ready (rs := [7]) (by kernel_rfl) (by simp) ?_
                refine AllReadyH.cons (o := ({ dst := none, op := Op.store 23 (Operand.tmp 25) (Operand.tmp 24), type := 0, pos := "state.go:55", after := #[{ on := 6, ground := Ground.data }, { on := 5, ground := Ground.data }, { on := 5, ground := Ground.chain }, { on := 0, ground := Ground.phase }, { on := 1, ground := Ground.phase }, { on := 2, ground := Ground.phase }, { on := 3, ground := Ground.phase }, { on := 4, ground := Ground.phase }, { on := 5, ground := Ground.phase }], guard := none } : Oper)) rfl (fun K hK => ?_) AllReadyH.nil
                · have zb := (L2.out.boxR hg3.out).1
                  have zf := (L2.out.boxR hg3.out).2
                  have z0 := zb.c0
                  have z1 := zb.c1
                  have z2 := zb.c2
                  have y0 := zf.f0
                  have y1 := zf.f1
                  have y2 := zf.f2
                  clear zb zf
                  go_simp
                  have L4 := hide (L2.out.appR (by decide) I2.out hO3.out hg3.out)
                  have b4 := hide (b3.out.setCell (p := ⟨q2, 2, none⟩) (Nat.le_refl _) (.slice a3 (es.length + 1) c3))
                  refine hK.out _ _ trivial (fun hH4 => ?_)
                  clear hK K z0 z1 z2 y0 y1 y2
                  obtain ⟨w4, hw4⟩ : ∃ z9, z9 = w3.setCell ⟨q2, 2, none⟩ (.slice a3 (es.length + 1) c3) := ⟨_, rfl⟩
                  rw [← hw4] at L4 b4  ⊢
                  clear hw4
                  refine wpAnyH_done (by kernel_rfl) ?_ _
                  go_wp2_with fail
                  exact ⟨⟨k + 1, _, _, by simp, by omega, ⟨⟨KW2.out.1.of (b4.out.block q0 FQ.out.1), KW2.out.2.1.of (b4.out.block q1 FQ.out.2), KW2.out.2.2.of (b4.out.block q1 FQ.out.2)⟩, by rw [take_more HX.out]; exact L4.out, BW2.out.trans (b4.out.mono FQ2.out)⟩⟩, by simp [intOf]; omega⟩
      · have hke : k = ss.length := by omega
        subst hke
        have h6 := h5.out
        rw [List.take_of_length_le (Nat.le_refl _)] at h6
        have h4 := hide h6
        clear h5 h6
        obtain ⟨a8, c8, rfl, -, -⟩ := h4.out.2.1.os.slice
        have e0 := h4.out.2.1.bx.c0
        have e1 := h4.out.2.1.bx.c1
        have e2 := h4.out.2.1.bx.c2
        have g0 := h4.out.1.2.1.c0
        have g1 := h4.out.1.2.1.c1
        have g2 := h4.out.1.2.1.c2
        have f0 := h4.out.1.2.2.f0
        have f1 := h4.out.1.2.2.f1
        have f2 := h4.out.1.2.2.f2
        have G1 := hide (And.intro (h4.out.1.2.1.put3 r (.slice a5 vs.length c5) (.slice a8 es.length c8)) (And.intro ((h4.out.2.1.far3 q1 r (.slice a5 vs.length c5) (.slice a8 es.length c8) (Nat.lt_succ_of_lt FQ.out.2) HN1.out (Nat.ne_of_lt FQ.out.2)).rn (N := w.heap.size) (by have := HQ.out; have := HN1.out; omega) (by have := FQ2.out; omega)) (st3_below h4.out.2.2 q1 HQ.out.1 r (.slice a5 vs.length c5) (.slice a8 es.length c8))))
        clear h4
        go_wp2_with fail
        have y0 := G1.out.1.c0
        have y1 := G1.out.1.c1
        have y2 := G1.out.1.c2
        clear e0 e1 e2 g0 g1 g2 f0 f1 f2
        exact bodyPost_ret (by simp [results, Try.results22, go_sem, y0, y1, y2]; try rfl) rfl ⟨_, rfl, G1.out.2.1, G1.out.2.2⟩
end Go.Proofs.Ytmhicllhjiglkaa
namespace Go.Proofs.Ytmhicllhjiglkaa
open Go.RowKit
theorem St.fixl {w0 wr : World} {a : Option Addr} {n c : Nat} {ps : List Int} (h : St w0 wr (.slice a n c) ps) : St w0 wr (.slice a ps.length c) ps := by
  obtain ⟨a2, c2, e⟩ := h.slice
  obtain ⟨rfl, rfl, rfl⟩ : a = a2 ∧ n = ps.length ∧ c = c2 := by simpa using e
  exact h
set_option maxRecDepth 100000 in
set_option maxHeartbeats 16000000 in
theorem bunion_own (xs ys : List Int) (a b : Option Addr) (c d : Nat) (w : World) (hr : Ri w a xs) (hs : Ri w b ys) (hl : xs.length + ys.length ≤ 100000) (hc : xs.length ≤ c) (hd : ys.length ≤ d) (na : a = none → c = 0) (nb : b = none → d = 0) :
    Calls Try.prog 87 #[.slice a xs.length c, .slice b ys.length d] w fun e w' => ∃ a' c', e = .returned (.slice a' (uniL xs ys).length c') ∧ St w w' (.slice a' (uniL xs ys).length c') (uniL xs ys) := by
  have HR : Hid (Ri w a xs) := hr
  have HS : Hid (Ri w b ys) := hs
  have NA := hide na
  have NB := hide nb
  clear hr hs na nb
  obtain ⟨C, hmk, hown⟩ := made_own (xs.length + ys.length) (by omega)
  have hST := hide (hown w)
  clear hown
  have hmk2 : ∀ w : World, (Instr.makeSlice 38 (.int .i64 0) (.int .i64 ((xs.length : Int) + ys.length))).run Try.prog w = .ok (.slice (some ⟨w.heap.size, 0, none⟩) 0 (xs.length + ys.length)) (w.alloc (.cells C 3)) := fun w => by simpa using hmk w
  clear hmk
  go_enter Try.func87, Try.ntmps87
  go_wp2_with fail
  clear hmk2
  go_loopw [0, 1, 5] (fun s0 s1 s5 wr => ∃ (a' b' : Option Addr) (zs us ps : List Int) (c' d' : Nat), s0 = .slice a' zs.length c' ∧ s1 = .slice b' us.length d' ∧ zs.length ≤ c' ∧ us.length ≤ d' ∧ ps.length + zs.length + us.length ≤ xs.length + ys.length ∧ Hid ((a' = none → c' = 0) ∧ (b' = none → d' = 0) ∧ Su a xs a' zs ∧ Su b ys b' us ∧ St w wr s5 ps ∧ ps ++ uniL zs us = uniL xs ys)) (fun s0 s1 _ _ => lenOf s0 + lenOf s1)
  case atStart => exact ⟨a, b, xs, ys, [], c, d, rfl, rfl, hc, hd, by simp, ⟨NA.out, NB.out, fun _ h => h, fun _ h => h, hST.out, rfl⟩⟩
  case round =>
    obtain ⟨a', b', zs, us, ps, c', d', rfl, rfl, h2, h3, hb, h4⟩ := hrel
    have hS := h4.out.2.2.2.2.1
    obtain ⟨a5, c5, rfl⟩ := hS.slice
    have HST : Hid (St w wr (.slice a5 ps.length c5) ps) := hS
    have HZ : Hid (Ri wr a' zs) := h4.out.2.2.1 _ (HR.out.keep' hS.bel)
    have HU : Hid (Ri wr b' us) := h4.out.2.2.2.1 _ (HS.out.keep' hS.bel)
    clear hS hST
    by_cases hex : zs = [] ∨ us = []
    · have HE : Hid (ps ++ zs ++ us = uniL xs ys) := hide (by
        rw [← h4.out.2.2.2.2.2, List.append_assoc]
        rcases hex with rfl | rfl
        · simp [uniL]
        · rw [uniL_nil]; simp)
      have HSu := hide h4.out.2.2.2.1
      have nz : a' = none → zs = [] ∧ c' = 0 := fun e => by
        refine ⟨?_, h4.out.1 e⟩
        cases zs with
        | nil => rfl
        | cons y t => obtain ⟨b2, o2, e2⟩ := HZ.out.some; rw [e] at e2; cases e2
      have nu : b' = none → us = [] ∧ d' = 0 := fun e => by
        refine ⟨?_, h4.out.2.1 e⟩
        cases us with
        | nil => rfl
        | cons y t => obtain ⟨b2, o2, e2⟩ := HU.out.some; rw [e] at e2; cases e2
      clear h4
      rcases hex with rfl | rfl
      · cases a' with
        | none =>
          obtain ⟨ez, ec⟩ := nz rfl
          clear ez
          subst ec
          clear nz
          cases b' with
          | none =>
            obtain ⟨eu, ed⟩ := nu rfl
            subst eu
            subst ed
            clear nu
            go_wp2_with (first | (at_builtin; refine wpList_app0 w wr rfl (.tmp 46) (.tmp 47) rfl _ ps HST.out rfl rfl ?_) | (at_builtin; refine wpList_app0 w wr rfl (.tmp 49) (.tmp 50) rfl _ ps HST.out (by simp [go_sem]) rfl ?_))
            all_goals (go_ret; have hE : ps = uniL xs ys := (by have t := HE.out; simpa using t); rw [← hE]; exact ⟨_, _, by simp [go_sem], HST.out.fixl⟩)
          | some bd =>
            clear nu
            go_wp2_with (first | (at_builtin; refine wpList_app0 w wr rfl (.tmp 46) (.tmp 47) rfl _ ps HST.out rfl rfl ?_) | (at_builtin; have HU2 := hide (HSu.out _ (HS.out.keep' HST.out.bel)); refine wpList_appN w wr rfl (.tmp 49) (.tmp 50) rfl _ ps us bd d' HST.out (by simp [go_sem]) rfl HU2.out (by simp at *; omega) ?_; intro a3 c3 w3 hS3; replace hS3 := (hide hS3)))
            all_goals (go_ret; have hE : ps ++ us = uniL xs ys := (by have t := HE.out; simpa using t); rw [← hE]; exact ⟨_, _, by simp [go_sem], hS3.out.fixl⟩)
        | some ad =>
          clear nz
          cases b' with
          | none =>
            obtain ⟨eu, ed⟩ := nu rfl
            subst eu
            subst ed
            clear nu
            go_wp2_with (first | (at_builtin; refine wpList_appN w wr rfl (.tmp 46) (.tmp 47) rfl _ ps [] ad c' HST.out rfl rfl HZ.out (by simp at *; omega) ?_; intro a2 c2 w2 hS2; replace hS2 := (hide hS2)) | (at_builtin; refine wpList_app0 w w2 rfl (.tmp 49) (.tmp 50) rfl _ (ps ++ []) hS2.out (by simp [go_sem]) rfl ?_))
            all_goals (go_ret; have hE : ps ++ [] = uniL xs ys := (by have t := HE.out; simpa using t); rw [← hE]; exact ⟨_, _, by simp [go_sem], hS2.out.fixl⟩)
          | some bd =>
            clear nu
            go_wp2_with (first | (at_builtin; refine wpList_appN w wr rfl (.tmp 46) (.tmp 47) rfl _ ps [] ad c' HST.out rfl rfl HZ.out (by simp at *; omega) ?_; intro a2 c2 w2 hS2; replace hS2 := (hide hS2)) | (at_builtin; have HU2 := hide (HSu.out _ (HS.out.keep' hS2.out.bel)); refine wpList_appN w w2 rfl (.tmp 49) (.tmp 50) rfl _ (ps ++ []) us bd d' hS2.out (by simp [go_sem]) rfl HU2.out (by simp at *; omega) ?_; intro a3 c3 w3 hS3; replace hS3 := (hide hS3)))
            all_goals (go_ret; have hE : (ps ++ []) ++ us = uniL xs ys := (by have t := HE.out; simpa using t); rw [← hE]; exact ⟨_, _, by simp [go_sem], hS3.out.fixl⟩)
      · cases a' with
        | none =>
          obtain ⟨ez, ec⟩ := nz rfl
          subst ez
          subst ec
          clear nz
          cases b' with
          | none =>
            obtain ⟨eu, ed⟩ := nu rfl
            clear eu
            subst ed
            clear nu
            go_wp2_with (first | (at_builtin; refine wpList_app0 w wr rfl (.tmp 46) (.tmp 47) rfl _ ps HST.out rfl rfl ?_) | (at_builtin; refine wpList_app0 w wr rfl (.tmp 49) (.tmp 50) rfl _ ps HST.out (by simp [go_sem]) rfl ?_))
            all_goals (go_ret; have hE : ps = uniL xs ys := (by have t := HE.out; simpa using t); rw [← hE]; exact ⟨_, _, by simp [go_sem], HST.out.fixl⟩)
          | some bd =>
            clear nu
            go_wp2_with (first | (at_builtin; refine wpList_app0 w wr rfl (.tmp 46) (.tmp 47) rfl _ ps HST.out rfl rfl ?_) | (at_builtin; have HU2 := hide (HSu.out _ (HS.out.keep' HST.out.bel)); refine wpList_appN w wr rfl (.tmp 49) (.tmp 50) rfl _ ps [] bd d' HST.out (by simp [go_sem]) rfl HU2.out (by simp at *; omega) ?_; intro a3 c3 w3 hS3; replace hS3 := (hide hS3)))
            all_goals (go_ret; have hE : ps ++ [] = uniL xs ys := (by have t := HE.out; simpa using t); rw [← hE]; exact ⟨_, _, by simp [go_sem], hS3.out.fixl⟩)
        | some ad =>
          clear nz
          cases b' with
          | none =>
            obtain ⟨eu, ed⟩ := nu rfl
            clear eu
            subst ed
            clear nu
            go_wp2_with (first | (at_builtin; refine wpList_appN w wr rfl (.tmp 46) (.tmp 47) rfl _ ps zs ad c' HST.out rfl rfl HZ.out (by simp at *; omega) ?_; intro a2 c2 w2 hS2; replace hS2 := (hide hS2)) | (at_builtin; refine wpList_app0 w w2 rfl (.tmp 49) (.tmp 50) rfl _ (ps ++ zs) hS2.out (by simp [go_sem]) rfl ?_))
            all_goals (go_ret; have hE : ps ++ zs = uniL xs ys := (by have t := HE.out; simpa using t); rw [← hE]; exact ⟨_, _, by simp [go_sem], hS2.out.fixl⟩)
          | some bd =>
            clear nu
            go_wp2_with (first | (at_builtin; refine wpList_appN w wr rfl (.tmp 46) (.tmp 47) rfl _ ps zs ad c' HST.out rfl rfl HZ.out (by simp at *; omega) ?_; intro a2 c2 w2 hS2; replace hS2 := (hide hS2)) | (at_builtin; have HU2 := hide (HSu.out _ (HS.out.keep' hS2.out.bel)); refine wpList_appN w w2 rfl (.tmp 49) (.tmp 50) rfl _ (ps ++ zs) [] bd d' hS2.out (by simp [go_sem]) rfl HU2.out (by simp at *; omega) ?_; intro a3 c3 w3 hS3; replace hS3 := (hide hS3)))
            all_goals (go_ret; have hE : (ps ++ zs) ++ [] = uniL xs ys := (by have t := HE.out; simpa using t); rw [← hE]; exact ⟨_, _, by simp [go_sem], hS3.out.fixl⟩)
    · cases zs with
      | nil => exact absurd (Or.inl rfl) hex
      | cons x s =>
        cases us with
        | nil => exact absurd (Or.inr rfl) hex
        | cons y t =>
          clear hex
          obtain ⟨bz, oz, rfl, hcell, -⟩ := HZ.out.head
          obtain ⟨bu, ou, rfl, hcell2, -⟩ := HU.out.head
          have h2' : s.length + 1 ≤ c' := by simpa using h2
          have h3' : t.length + 1 ≤ d' := by simpa using h3
          have hp2 : ps.length ≤ 1000000 := by simp at hb; omega
          clear HZ HU
          have S1 : Hid (Su a xs (if c' = 1 then some ⟨bz, oz, none⟩ else some ⟨bz, oz + 1, none⟩) s) := hide (fun w2 h5 => (Ri.tail (h4.out.2.2.1 w2 h5)).step h2')
          have S2 : Hid (Su b ys (if d' = 1 then some ⟨bu, ou, none⟩ else some ⟨bu, ou + 1, none⟩) t) := hide (fun w2 h5 => (Ri.tail (h4.out.2.2.2.1 w2 h5)).step h3')
          have N1 : Hid ((if c' = 1 then some (⟨bz, oz, none⟩ : Addr) else some ⟨bz, oz + 1, none⟩) = none → c' - 1 = 0) := hide (fun e => by split at e <;> cases e)
          have N2 : Hid ((if d' = 1 then some (⟨bu, ou, none⟩ : Addr) else some ⟨bu, ou + 1, none⟩) = none → d' - 1 = 0) := hide (fun e => by split at e <;> cases e)
          have S3 := hide h4.out.2.2.1
          have S4 := hide h4.out.2.2.2.1
          have HE := hide h4.out.2.2.2.2.2
          clear h4
          by_cases hlt : x < y
          · have HE2 : Hid (ps ++ [x] ++ uniL s (y :: t) = uniL xs ys) := hide (by have e := HE.out; rw [uniL, if_pos hlt] at e; simpa using e)
            have hm : min x y = x := by omega
            have q1 : (y == x) = false := beq_eq_false_iff_ne.2 (by omega)
            go_wp2
            go_quiet (fail)
            have HS2 := hide (HST.out.drewN nq)
            go_wp2_with (at_builtin; refine wpList_app1 w (wr.drewN nq) rfl (.tmp 42) (.tmp 44) rfl _ ps x HS2.out (by simp [go_sem]) rfl hp2 ?_; intro a2 c2 w2 hS2; replace hS2 := (hide hS2))
            go_round
            case rel => exact ⟨_, _, s, y :: t, ps ++ [x], c' - 1, d', rfl, rfl, by first | exact h2 | omega, by first | exact h3 | omega, by simp at *; omega, ⟨N1.out, (fun e => by cases e), S1.out, S4.out, by simpa using hS2.out, HE2.out⟩⟩
            case measure => simp [lenOf]; try omega
          by_cases hgt : y < x
          · have HE2 : Hid (ps ++ [y] ++ uniL (x :: s) t = uniL xs ys) := hide (by have e := HE.out; rw [uniL, if_neg hlt, if_pos hgt] at e; simpa using e)
            have hm : min x y = y := by omega
            have q1 : (x == y) = false := beq_eq_false_iff_ne.2 (by omega)
            go_wp2
            go_quiet (fail)
            have HS2 := hide (HST.out.drewN nq)
            go_wp2_with (at_builtin; refine wpList_app1 w (wr.drewN nq) rfl (.tmp 42) (.tmp 44) rfl _ ps y HS2.out (by simp [go_sem]) rfl hp2 ?_; intro a2 c2 w2 hS2; replace hS2 := (hide hS2))
            go_round
            case rel => exact ⟨_, _, x :: s, t, ps ++ [y], c', d' - 1, rfl, rfl, by first | exact h2 | omega, by first | exact h3 | omega, by simp at *; omega, ⟨(fun e => by cases e), N2.out, S3.out, S2.out, by simpa using hS2.out, HE2.out⟩⟩
            case measure => simp [lenOf]; try omega
          · have HE2 : Hid (ps ++ [x] ++ uniL s t = uniL xs ys) := hide (by have e := HE.out; rw [uniL, if_neg hlt, if_neg hgt] at e; simpa using e)
            obtain rfl : x = y := by omega
            have hm : min x x = x := by omega
            go_wp2
            go_quiet (fail)
            have HS2 := hide (HST.out.drewN nq)
            go_wp2_with (at_builtin; refine wpList_app1 w (wr.drewN nq) rfl (.tmp 42) (.tmp 44) rfl _ ps x HS2.out (by simp [go_sem]) rfl hp2 ?_; intro a2 c2 w2 hS2; replace hS2 := (hide hS2))
            go_round
            case rel => exact ⟨_, _, s, t, ps ++ [x], c' - 1, d' - 1, rfl, rfl, by first | exact h2 | omega, by first | exact h3 | omega, by simp at *; omega, ⟨N1.out, N2.out, S1.out, S2.out, by simpa using hS2.out, HE2.out⟩⟩
            case measure => simp [lenOf]; try omega
end Go.Proofs.Ytmhicllhjiglkaa
