import Derived.Test.YtmhicllhjiglkaaG26
import Derived.Test.YtmhicllhjiglkaaG01
import Derived.Deep.RegionHeld3
import Derived.Test.YtmhicllhjiglkaaG17
namespace Go.Proofs.Ytmhicllhjiglkaa
open Go.RowKit
set_option maxRecDepth 100000 in
set_option maxHeartbeats 8000000 in
theorem equalr_S (a1 b1 a2 b2 : Option Addr) (c1 d1 c2 d2 : Nat) (r : Bool) (vs : List R) (ss : List (List Int)) (w : World) (hv1 : RV w a1 vs) (hs1 : RR w b1 ss) (hv2 : RV w a2 vs) (hs2 : RR w b2 ss) (hl1 : vs.length ≤ 100000) (hl2 : ss.length ≤ 100000) (hl3 : ∀ (m : Nat) (l : List Int), ss[m]? = some l → l.length ≤ 100000) :
    Calls Try.prog 21 #[.agg #[.bool r, .slice a1 vs.length c1, .slice b1 ss.length d1], .agg #[.bool r, .slice a2 vs.length c2, .slice b2 ss.length d2]] w fun e w' => e = .returned (.bool true) ∧ Below w.heap.size w w' := by
  have HV1 := hide hv1
  have HR1 := hide hs1
  have HV2 := hide hv2
  have HR2 := hide hs2
  have HL3 := hide hl3
  clear hv1 hs1 hv2 hs2 hl3
  have i1 : (vs.length : Int) ≤ 100000 := by omega
  have i2 : (ss.length : Int) ≤ 100000 := by omega
  have b1' : ((vs.length : Int) != vs.length) = false := by simp
  have b2' : ((ss.length : Int) != ss.length) = false := by simp
  have b3' : (r != r) = false := by simp
  go_enter Try.func21, Try.ntmps21
  go_upto_region 3 with fail
  go_name_world W hW
  obtain ⟨q1, h1⟩ : ∃ z9, z9 = w.heap.size + 1 := ⟨_, rfl⟩
  rw [← h1]
  obtain ⟨q0, h0⟩ : ∃ z9, z9 = w.heap.size := ⟨_, rfl⟩
  rw [← h0]
  have H1 : Hid (Bs W q0 r (.slice a1 vs.length c1) (.slice b1 ss.length d1) ∧ Bs W q1 r (.slice a2 vs.length c2) (.slice b2 ss.length d2) ∧ Below w.heap.size w W) := by
    unfold Hid
    rw [h1, h0]
    obtain ⟨B0, -, B1, -, u⟩ := boxes2 w _ _ _ _ _ _ _ _ W hW
    exact ⟨B0, B1, u⟩
  clear hW h1 h0 b1' b2' b3'
  have e1 := H1.out.1.c1
  have e2 := H1.out.2.1.c1
  go_wp2_with fail
  go_loopw [5] (fun sk wr => ∃ k n : Nat, wr = W.drewN n ∧ sk = .int .i64 k ∧ k ≤ vs.length) (fun sk _ => vs.length - (intOf sk).toNat)
  case atStart => exact ⟨0, 0, rfl, rfl, Nat.zero_le _⟩
  case round =>
    obtain ⟨k, n, rfl, rfl, hk⟩ := hrel
    by_cases hkv : k < vs.length
    · have hkv2 : (k : Int) < vs.length := by omega
      obtain ⟨b3, o3, x, hX, rfl, hx6⟩ := HV1.out.at hkv
      obtain ⟨b4, o4, x', hX', rfl, hy6⟩ := HV2.out.at hkv
      obtain rfl : x = x' := Option.some.inj (hX.symm.trans hX')
      have t6 := hx6.keep H1.out.2.2
      have s6 := hy6.keep H1.out.2.2
      have d0 := t6.c0
      have d1 := t6.c1
      have d2 := t6.c2
      have d3 := t6.c3
      have d4 := t6.c4
      have d5 := t6.c5
      have g0 := s6.c0
      have g1 := s6.c1
      have g2 := s6.c2
      have g3 := s6.c3
      have g4 := s6.c4
      have g5 := s6.c5
      clear hX hX' hx6 hy6 t6 s6
      go_wp2
      go_quiet (fail)
      go_wp2
      exact ⟨⟨k + 1, n + nq, rfl, by simp, by omega⟩, by simp [intOf]; omega⟩
    · have hke : k = vs.length := by omega
      subst hke
      have e3 := H1.out.1.c2
      have e4 := H1.out.2.1.c2
      go_wp2_with fail
      go_loopw [6] (fun sk wr => ∃ k n : Nat, wr = W.drewN n ∧ sk = .int .i64 k ∧ k ≤ ss.length) (fun sk _ => ss.length - (intOf sk).toNat)
      case atStart => exact ⟨0, n, rfl, rfl, Nat.zero_le _⟩
      case round =>
        obtain ⟨k, m, rfl, rfl, hk⟩ := hrel
        by_cases hkv : k < ss.length
        · have hkv2 : (k : Int) < ss.length := by omega
          obtain ⟨b3, o3, l, ai, ci, hX, rfl, f1, f2, f3, f4⟩ := HR1.out.at hkv
          obtain ⟨b4, o4, l', aj, cj, hX', rfl, f5, f6, f7, f8⟩ := HR2.out.at hkv
          obtain rfl : l = l' := Option.some.inj (hX.symm.trans hX')
          have hl := HL3.out k l hX
          have y1 := (H1.out.2.2.cell (p := ⟨b3, o3 + k, none⟩) (World.block_lt_of_cell? w _ f1)).trans f1
          have y2 := (H1.out.2.2.cell (p := ⟨b4, o4 + k, none⟩) (World.block_lt_of_cell? w _ f5)).trans f5
          have HI := hide (f2.keep' H1.out.2.2)
          have HJ := hide (f6.keep' H1.out.2.2)
          obtain ⟨V, hV⟩ : ∃ z9, z9 = W.drewN m := ⟨_, rfl⟩
          rw [← hV]
          have x1 : V.cell? ⟨b3, o3 + k, none⟩ = some (.slice ai l.length ci) := by rw [hV]; exact y1
          have x2 : V.cell? ⟨b4, o4 + k, none⟩ = some (.slice aj l.length cj) := by rw [hV]; exact y2
          have x3 : V.cell? ⟨q0, 2, none⟩ = some (.slice (some ⟨b3, o3, none⟩) ss.length d1) := by rw [hV]; exact e3
          have x4 : V.cell? ⟨q1, 2, none⟩ = some (.slice (some ⟨b4, o4, none⟩) ss.length d2) := by rw [hV]; exact e4
          have CS : ∀ z, Calls Try.prog 56 #[.slice ai l.length ci, .slice aj l.length cj] (V.drewN z) fun e w'' => e = .returned (.bool true) ∧ ∃ y, w'' = V.drewN y := fun z => by
            rw [hV]
            exact (brsame_any l l ai aj ci cj ((W.drewN m).drewN z) ((HI.out.drewN m).drewN z) ((HJ.out.drewN m).drewN z) (by omega) (by omega)).mono fun e w'' ⟨⟨y, hy⟩, he⟩ => ⟨by rw [he, show sameL l l = true from decide_eq_true rfl], z + y, by rw [hy]; simp [Nat.add_assoc]⟩
          have HVw := hide hV
          clear hX hX' f1 f2 f3 f4 f5 f6 f7 f8 y1 y2 e3 e4 hV
          go_wp2
          go_quiet ((go_at_call 56; exact CS _))
          go_wp2
          exact ⟨⟨k + 1, m + nq, by rw [HVw.out]; simp, by simp, by omega⟩, by simp [intOf]; omega⟩
        · have hke : k = ss.length := by omega
          subst hke
          go_wp2
          go_ret
          exact ⟨by simp, below_drewN H1.out.2.2 m⟩
set_option maxRecDepth 100000 in
set_option maxHeartbeats 8000000 in
theorem same_S0 (a1 b1 a2 b2 : Option Addr) (c1 d1 c2 d2 : Nat) (r : Bool) (vs : List R) (ss : List (List Int)) (w : World) (hv1 : RV w a1 vs) (hs1 : RR w b1 ss) (hv2 : RV w a2 vs) (hs2 : RR w b2 ss) (hl1 : vs.length ≤ 100000) (hl2 : ss.length ≤ 100000) (hl3 : ∀ (m : Nat) (l : List Int), ss[m]? = some l → l.length ≤ 100000) :
    Calls Try.prog 13 #[.agg #[.bool r, .slice a1 vs.length c1, .slice b1 ss.length d1], .agg #[.bool r, .slice a2 vs.length c2, .slice b2 ss.length d2]] w fun e w' => e = .returned (.bool true) ∧ Below w.heap.size w w' := by
  have HL3 := hide hl3
  have HV1' := hide hv1
  have HR1' := hide hs1
  have HV2' := hide hv2
  have HR2' := hide hs2
  clear hv1 hs1 hv2 hs2 hl3
  go_enter Try.func13, Try.ntmps13
  go_upto_region 1 with fail
  go_name_world W hW
  obtain ⟨q1, h1⟩ : ∃ z9, z9 = w.heap.size + 1 := ⟨_, rfl⟩
  rw [← h1]
  obtain ⟨q0, h0⟩ : ∃ z9, z9 = w.heap.size := ⟨_, rfl⟩
  rw [← h0]
  have H1 : Hid (Bs W q0 r (.slice a1 vs.length c1) (.slice b1 ss.length d1) ∧ Bs W q1 r (.slice a2 vs.length c2) (.slice b2 ss.length d2) ∧ Below w.heap.size w W) := by
    unfold Hid
    rw [h1, h0]
    obtain ⟨B0, -, B1, -, u⟩ := boxes2 w _ _ _ _ _ _ _ _ W hW
    exact ⟨B0, B1, u⟩
  clear hW h1 h0
  have BW := hide H1.out.2.2
  have HV1 := hide (HV1'.out.keep BW.out)
  have HV2 := hide (HV2'.out.keep BW.out)
  have HR1 := hide (HR1'.out.keep BW.out)
  have HR2 := hide (HR2'.out.keep BW.out)
  have HS : Hid (∀ w', Below W.heap.size W w' → (w'.cell? ⟨q0, 0, none⟩ = some (.bool r) ∧ w'.cell? ⟨q0, 1, none⟩ = some (.slice a1 vs.length c1) ∧ w'.cell? ⟨q0, 2, none⟩ = some (.slice b1 ss.length d1) ∧ w'.cell? ⟨q1, 0, none⟩ = some (.bool r) ∧ w'.cell? ⟨q1, 1, none⟩ = some (.slice a2 vs.length c2) ∧ w'.cell? ⟨q1, 2, none⟩ = some (.slice b2 ss.length d2))) := fun w' h => by
    have t0 := H1.out.1.keep h
    have t1 := H1.out.2.1.keep h
    exact ⟨t0.c0, t0.c1, t0.c2, t1.c0, t1.c1, t1.c2⟩
  clear H1 HV1' HV2' HR1' HR2'
  refine wp_region_held_drew (S := fun w' => w'.cell? ⟨q0, 0, none⟩ = some (.bool r) ∧ w'.cell? ⟨q0, 1, none⟩ = some (.slice a1 vs.length c1) ∧ w'.cell? ⟨q0, 2, none⟩ = some (.slice b1 ss.length d1) ∧ w'.cell? ⟨q1, 0, none⟩ = some (.bool r) ∧ w'.cell? ⟨q1, 1, none⟩ = some (.slice a2 vs.length c2) ∧ w'.cell? ⟨q1, 2, none⟩ = some (.slice b2 ss.length d2)) (by kernel_rfl) (HS.out _ (Below.refl _ _).drew) (fun hH0 => ?_)
  obtain ⟨w0, hw0⟩ : ∃ w0, w0 = W.drew := ⟨_, rfl⟩
  (try rw [← hw0] at hH0)
  rw [← hw0]
  have b0 : Hid (Below W.heap.size W w0) := hw0 ▸ hide (Below.refl _ _).drew
  clear hw0
  refine wpAnyH_take (i := 0) (oi := ({ dst := some 5, op := Op.load 29 (Operand.tmp 2), type := 29, pos := "law.go:36", after := #[], guard := none } : Oper)) (v := ?_) rfl (by kernel_rfl) (by kernel_rfl) (by kernel_rfl) (fun _ _ _ h => h) (Or.inl ⟨by rfl, ?_⟩) (by assumption) ?_
  rotate_left
  · (intro wz hSw; (try dsimp only at hSw); go_simp; try with_reducible rfl)
  simp only [Act.put, List.setIfInBounds_toArray, List.set_cons_zero, List.set_cons_succ]
  refine wpAnyH_take (i := 2) (oi := ({ dst := some 7, op := Op.load 25 (Operand.tmp 3), type := 25, pos := "law.go:36", after := #[], guard := none } : Oper)) (v := ?_) rfl (by kernel_rfl) (by kernel_rfl) (by kernel_rfl) (fun _ _ _ h => h) (Or.inl ⟨by rfl, ?_⟩) (by assumption) ?_
  rotate_left
  · (intro wz hSw; (try dsimp only at hSw); go_simp; try with_reducible rfl)
  simp only [Act.put, List.setIfInBounds_toArray, List.set_cons_zero, List.set_cons_succ]
  refine wpAnyH_ready (rs := [1]) (by kernel_rfl) (by simp) ?_
  refine AllReadyH.cons (o := ({ dst := some 6, op := Op.call { callee := Callee.value (Operand.func 42), args := #[Operand.tmp 5], argTypes := #[29] }, type := 25, pos := "law.go:36", after := #[{ on := 0, ground := Ground.data }], guard := none } : Oper)) rfl (fun K hK => ?_) AllReadyH.nil
  · go_simp
    go_at_call 42
    refine (from_S a1 b1 c1 d1 r vs ss _ (HV1.out.keep b0.out) (HR1.out.keep b0.out) hl1 hl2 HL3.out).mono ?_
    rintro e w1 ⟨v, rfl, hR, hb1⟩
    obtain ⟨a3, c3, b3, d3, rfl, k1, k2, -, -, -, -⟩ := hR.rs
    dsimp only at k1 k2 ⊢
    have b1 := hide (b0.out.trans (hb1.mono b0.out.size))
    have K1 := hide k1
    have K2 := hide k2
    refine hK.out _ _ (HS.out _ b1.out) (fun hH1 => ?_)
    clear hK K hb1 k1 k2
    refine wpAnyH_ready (rs := [3]) (by kernel_rfl) (by simp) ?_
    refine AllReadyH.cons (o := ({ dst := some 8, op := Op.call { callee := Callee.value (Operand.func 21), args := #[Operand.tmp 6, Operand.tmp 7], argTypes := #[25, 25] }, type := 4, pos := "law.go:36", after := #[{ on := 1, ground := Ground.data }, { on := 2, ground := Ground.data }, { on := 1, ground := Ground.chain }], guard := none } : Oper)) rfl (fun K hK => ?_) AllReadyH.nil
    · go_simp
      go_at_call 21
      refine (equalr_S a3 b3 a2 b2 c3 d3 c2 d2 r vs ss _ K1.out K2.out (HV2.out.keep b1.out) (HR2.out.keep b1.out) hl1 hl2 HL3.out).mono ?_
      rintro e w2 ⟨rfl, hb2⟩
      have b2 := hide (b1.out.trans (hb2.mono b1.out.size))
      refine hK.out _ _ (HS.out _ b2.out) (fun hH2 => ?_)
      clear hK K hb2
      refine wpAnyH_take (i := 4) (oi := ({ dst := some 4, op := Op.assign (Operand.tmp 8), type := 4, pos := "law.go:36", after := #[{ on := 3, ground := Ground.data }, { on := 3, ground := Ground.chain }, { on := 0, ground := Ground.phase }, { on := 1, ground := Ground.phase }, { on := 2, ground := Ground.phase }, { on := 3, ground := Ground.phase }], guard := none } : Oper)) (v := ?_) rfl (by kernel_rfl) (by kernel_rfl) (by kernel_rfl) (fun _ _ _ h => h) (Or.inl ⟨by rfl, ?_⟩) (by assumption) ?_
      rotate_left
      · (intro wz hSw; (try dsimp only at hSw); go_simp; try with_reducible rfl)
      simp only [Act.put, List.setIfInBounds_toArray, List.set_cons_zero, List.set_cons_succ]
      refine wpAnyH_done (by kernel_rfl) ?_ _
      go_wp2
      go_ret
      exact ⟨by simp, BW.out.trans (b2.out.mono BW.out.size)⟩
/-- two that are the same -/
theorem same_S {v1 v2 : Value} {s : S} {w : World} (h1 : Rs w v1 s) (h2 : Rs w v2 s) (hl1 : s.vs.length ≤ 100000) (hl2 : s.ss.length ≤ 100000) (hl3 : ∀ (m : Nat) (l : List Int), s.ss[m]? = some l → l.length ≤ 100000) : Calls Try.prog 13 #[v1, v2] w fun e w' => e = .returned (.bool true) ∧ Below w.heap.size w w' := by
  obtain ⟨a, c, b, d, rfl, k1, k2, -⟩ := h1
  obtain ⟨a2, c2, b2, d2, rfl, k3, k4, -⟩ := h2
  exact same_S0 a b a2 b2 c d c2 d2 s.r s.vs s.ss w k1 k2 k3 k4 hl1 hl2 hl3
end Go.Proofs.Ytmhicllhjiglkaa
namespace Go.Proofs.Ytmhicllhjiglkaa
open Go.RowKit
theorem neq_val48 (x y : R) (h : x ≠ y) (w : World) : (binOp .neq 48 (aR x) (aR y)).run Try.prog w = .ok (.bool true) w := by
  obtain ⟨a, b, c, d, e, f⟩ := x
  obtain ⟨a', b', c', d', e', f'⟩ := y
  by_cases h0 : a = a'
  · subst h0
    by_cases h1 : b = b'
    · subst h1
      by_cases h2 : c = c'
      · subst h2
        by_cases h3 : d = d'
        · subst h3
          by_cases h4 : e = e'
          · subst h4
            by_cases h5 : f = f'
            · subst h5; exact absurd rfl h
            · simp [go_sem, h5]
          · simp [go_sem, h4]
        · simp [go_sem, h3]
      · simp [go_sem, h2]
    · simp [go_sem, h1]
  · simp [go_sem, h0]
set_option maxRecDepth 100000 in
set_option maxHeartbeats 8000000 in
theorem equalr_any (a1 b1 a2 b2 : Option Addr) (c1 d1 c2 d2 : Nat) (r r2 : Bool) (vs ts : List R) (ss tt : List (List Int)) (w : World) (hv1 : RV w a1 vs) (hs1 : RR w b1 ss) (hv2 : RV w a2 ts) (hs2 : RR w b2 tt) (hl1 : vs.length ≤ 100000) (hl2 : ss.length ≤ 100000) (hl3 : ∀ l ∈ ss, l.length ≤ 100000) (hl4 : ∀ l ∈ tt, l.length ≤ 100000) :
    Calls Try.prog 21 #[.agg #[.bool r, .slice a1 vs.length c1, .slice b1 ss.length d1], .agg #[.bool r2, .slice a2 ts.length c2, .slice b2 tt.length d2]] w fun e w' => ∃ bv, e = .returned (.bool bv) ∧ Below w.heap.size w w' ∧ (bv = true ↔ r = r2 ∧ vs = ts ∧ ss = tt) := by
  have HV1 := hide hv1
  have HR1 := hide hs1
  have HV2 := hide hv2
  have HR2 := hide hs2
  have HL3 := hide hl3
  have HL4 := hide hl4
  clear hv1 hs1 hv2 hs2 hl3 hl4
  have i1 : (vs.length : Int) ≤ 100000 := by omega
  have i2 : (ss.length : Int) ≤ 100000 := by omega
  by_cases hr : r = r2
  · subst hr
    have b3' : (r != r) = false := by simp
    by_cases hl : vs.length = ts.length
    · have b1' : ((vs.length : Int) != ts.length) = false := by simp [hl]
      by_cases hm : ss.length = tt.length
      · have b2' : ((ss.length : Int) != tt.length) = false := by simp [hm]
        have HLn := hide (And.intro hl hm)
        clear hl hm
        go_enter Try.func21, Try.ntmps21
        go_upto_region 3 with fail
        go_name_world W hW
        obtain ⟨q1, h1⟩ : ∃ z9, z9 = w.heap.size + 1 := ⟨_, rfl⟩
        rw [← h1]
        obtain ⟨q0, h0⟩ : ∃ z9, z9 = w.heap.size := ⟨_, rfl⟩
        rw [← h0]
        have H1 : Hid (Bs W q0 r (.slice a1 vs.length c1) (.slice b1 ss.length d1) ∧ Bs W q1 r (.slice a2 ts.length c2) (.slice b2 tt.length d2) ∧ Below w.heap.size w W) := by
          unfold Hid
          rw [h1, h0]
          obtain ⟨B0, -, B1, -, u⟩ := boxes2 w _ _ _ _ _ _ _ _ W hW
          exact ⟨B0, B1, u⟩
        clear hW h1 h0 b1' b2' b3'
        have e1 := H1.out.1.c1
        have e2 := H1.out.2.1.c1
        go_wp2_with fail
        go_loopw [5] (fun sk wr => ∃ k n : Nat, wr = W.drewN n ∧ sk = .int .i64 k ∧ k ≤ vs.length ∧ Hid (vs.take k = ts.take k)) (fun sk _ => vs.length - (intOf sk).toNat)
        case atStart => exact ⟨0, 0, rfl, rfl, Nat.zero_le _, rfl⟩
        case round =>
          obtain ⟨k, n, rfl, rfl, hk, h4⟩ := hrel
          by_cases hkv : k < vs.length
          · have hkv2 : (k : Int) < vs.length := by omega
            have hkt : k < ts.length := by have := HLn.out; omega
            have hkt2 : (k : Int) < ts.length := by omega
            obtain ⟨b3, o3, x, hX, rfl, hx6⟩ := HV1.out.at hkv
            obtain ⟨b4, o4, y, hY, rfl, hy6⟩ := HV2.out.at hkt
            have ht := take_ext h4.out hX hY
            have t6 := hx6.keep H1.out.2.2
            have s6 := hy6.keep H1.out.2.2
            have d0 := t6.c0
            have d1 := t6.c1
            have d2 := t6.c2
            have d3 := t6.c3
            have d4 := t6.c4
            have d5 := t6.c5
            have g0 := s6.c0
            have g1 := s6.c1
            have g2 := s6.c2
            have g3 := s6.c3
            have g4 := s6.c4
            have g5 := s6.c5
            clear hX hY hx6 hy6 t6 s6
            by_cases hxy : x = y
            · subst hxy
              have HT := hide (ht.1 rfl)
              clear ht h4
              go_wp2
              go_quiet (fail)
              go_wp2
              exact ⟨⟨k + 1, n + nq, rfl, by simp, by omega, HT.out⟩, by simp [intOf]; omega⟩
            · have HT := hide (ht.2 hxy)
              have hne := neq_val48 x y hxy
              clear ht h4 hxy
              go_wp2
              go_quiet (fail)
              go_wp2
              go_ret
              exact ⟨false, rfl, below_drewN (below_drewN H1.out.2.2 _) _, ⟨fun e => (by cases e), fun e => absurd e.2.1 HT.out⟩⟩
          · have hke : k = vs.length := by omega
            subst hke
            have HE : Hid (vs = ts) := hide (by have t := h4.out; rw [List.take_of_length_le (Nat.le_refl _), List.take_of_length_le (by have := HLn.out; omega)] at t; exact t)
            clear h4
            have e3 := H1.out.1.c2
            have e4 := H1.out.2.1.c2
            go_wp2_with fail
            go_loopw [6] (fun sk wr => ∃ k n : Nat, wr = W.drewN n ∧ sk = .int .i64 k ∧ k ≤ ss.length ∧ Hid (ss.take k = tt.take k)) (fun sk _ => ss.length - (intOf sk).toNat)
            case atStart => exact ⟨0, n, rfl, rfl, Nat.zero_le _, rfl⟩
            case round =>
              obtain ⟨k, m, rfl, rfl, hk, h4⟩ := hrel
              by_cases hkv : k < ss.length
              · have hkv2 : (k : Int) < ss.length := by omega
                have hkt : k < tt.length := by have := HLn.out; omega
                have hkt2 : (k : Int) < tt.length := by omega
                obtain ⟨b3, o3, l, ai, ci, hX, rfl, f1, f2, f3, f4⟩ := HR1.out.at hkv
                obtain ⟨b4, o4, l', aj, cj, hX', rfl, f5, f6, f7, f8⟩ := HR2.out.at hkt
                have ht := take_ext h4.out hX hX'
                have hl := HL3.out l (List.mem_of_getElem? hX)
                have hl' := HL4.out l' (List.mem_of_getElem? hX')
                have y1 := (H1.out.2.2.cell (p := ⟨b3, o3 + k, none⟩) (World.block_lt_of_cell? w _ f1)).trans f1
                have y2 := (H1.out.2.2.cell (p := ⟨b4, o4 + k, none⟩) (World.block_lt_of_cell? w _ f5)).trans f5
                have HI := hide (f2.keep' H1.out.2.2)
                have HJ := hide (f6.keep' H1.out.2.2)
                obtain ⟨V, hV⟩ : ∃ z9, z9 = W.drewN m := ⟨_, rfl⟩
                rw [← hV]
                have x1 : V.cell? ⟨b3, o3 + k, none⟩ = some (.slice ai l.length ci) := by rw [hV]; exact y1
                have x2 : V.cell? ⟨b4, o4 + k, none⟩ = some (.slice aj l'.length cj) := by rw [hV]; exact y2
                have x3 : V.cell? ⟨q0, 2, none⟩ = some (.slice (some ⟨b3, o3, none⟩) ss.length d1) := by rw [hV]; exact e3
                have x4 : V.cell? ⟨q1, 2, none⟩ = some (.slice (some ⟨b4, o4, none⟩) tt.length d2) := by rw [hV]; exact e4
                have CS : ∀ z, Calls Try.prog 56 #[.slice ai l.length ci, .slice aj l'.length cj] (V.drewN z) fun e w'' => e = .returned (.bool (sameL l l')) ∧ ∃ y, w'' = V.drewN y := fun z => by
                  rw [hV]
                  exact (brsame_any l l' ai aj ci cj ((W.drewN m).drewN z) ((HI.out.drewN m).drewN z) ((HJ.out.drewN m).drewN z) (by omega) (by omega)).mono fun e w'' ⟨⟨y, hy⟩, he⟩ => ⟨he, z + y, by rw [hy]; simp [Nat.add_assoc]⟩
                have HVw := hide hV
                clear hX hX' f1 f2 f3 f4 f5 f6 f7 f8 y1 y2 e3 e4 hV
                by_cases hxy : l = l'
                · have HT := hide (ht.1 hxy)
                  rw [show sameL l l' = true from decide_eq_true hxy] at CS
                  clear ht h4 hxy
                  go_wp2
                  go_quiet ((go_at_call 56; exact CS _))
                  go_wp2
                  exact ⟨⟨k + 1, m + nq, by rw [HVw.out]; simp, by simp, by omega, HT.out⟩, by simp [intOf]; omega⟩
                · have HT := hide (ht.2 hxy)
                  rw [show sameL l l' = false from decide_eq_false hxy] at CS
                  clear ht h4 hxy
                  go_wp2
                  go_quiet ((go_at_call 56; exact CS _))
                  go_wp2
                  go_ret
                  exact ⟨false, rfl, by rw [HVw.out]; exact below_drewN (below_drewN H1.out.2.2 m) _, ⟨fun e => (by cases e), fun e => absurd e.2.2 HT.out⟩⟩
              · have hke : k = ss.length := by omega
                subst hke
                have HE2 : Hid (ss = tt) := hide (by have t := h4.out; rw [List.take_of_length_le (Nat.le_refl _), List.take_of_length_le (by have := HLn.out; omega)] at t; exact t)
                clear h4
                go_wp2
                go_ret
                exact ⟨true, rfl, below_drewN H1.out.2.2 m, by first | exact ⟨fun _ => ⟨rfl, HE.out, HE2.out⟩, fun _ => rfl⟩ | (simp; exact ⟨HE.out, HE2.out⟩)⟩
      · have b2' : ((ss.length : Int) != tt.length) = true := by rw [bne_iff_ne]; omega
        have HT : Hid (¬ ss = tt) := hide (fun e => hm (by rw [e]))
        clear hm hl
        go_enter Try.func21, Try.ntmps21
        go_wp2
        go_ret
        exact ⟨false, rfl, (by repeat (first | exact Below.refl _ _ | (refine Below.alloc ?_ (by first | omega | (simp; done) | (simp; omega)) _))), ⟨fun e => (by cases e), fun e => absurd e.2.2 HT.out⟩⟩
    · have b1' : ((vs.length : Int) != ts.length) = true := by rw [bne_iff_ne]; omega
      have HT : Hid (¬ vs = ts) := hide (fun e => hl (by rw [e]))
      clear hl
      go_enter Try.func21, Try.ntmps21
      go_wp2
      go_ret
      exact ⟨false, rfl, (by repeat (first | exact Below.refl _ _ | (refine Below.alloc ?_ (by first | omega | (simp; done) | (simp; omega)) _))), ⟨fun e => (by cases e), fun e => absurd e.2.1 HT.out⟩⟩
  · have b3' : (r != r2) = true := by rw [bne_iff_ne]; exact hr
    have HT := hide hr
    clear hr
    go_enter Try.func21, Try.ntmps21
    go_wp2
    go_ret
    exact ⟨false, rfl, (by repeat (first | exact Below.refl _ _ | (refine Below.alloc ?_ (by first | omega | (simp; done) | (simp; omega)) _))), ⟨fun e => (by cases e), fun e => absurd e.1 HT.out⟩⟩
end Go.Proofs.Ytmhicllhjiglkaa
