import Derived.Test.YtmhicllhjiglkaaG09
import Derived.Test.YtmhicllhjiglkaaG01
import Derived.Deep.RegionHeld3
import Derived.Test.YtmhicllhjiglkaaG07
import Derived.Test.YtmhicllhjiglkaaG05
namespace Go.Proofs.Ytmhicllhjiglkaa
open Go.RowKit
set_option maxRecDepth 100000 in
set_option maxHeartbeats 8000000 in
theorem equalr_S (a1 b1 a2 b2 : Option Addr) (c1 d1 c2 d2 : Nat) (r : Bool) (vs : List R) (ss : List (List Int)) (w : World) (hv1 : RV w a1 vs) (hs1 : RR w b1 ss) (hv2 : RV w a2 vs) (hs2 : RR w b2 ss) (hl1 : vs.length ≤ 100000) (hl2 : ss.length ≤ 100000) (hl3 : ∀ (m : Nat) (l : List Int), ss[m]? = some l → l.length ≤ 100000) :
    Calls Try.prog 21 #[.agg #[.bool r, .slice a1 vs.length c1, .slice b1 ss.length d1], .agg #[.bool r, .slice a2 vs.length c2, .slice b2 ss.length d2]] w fun e w' => e = .returned (.bool true) ∧ Below w.heap.size w w' := by
  have HV1 := hide hv1
  have HR1 := hide hs1
  have HV2 := hide hv2
  have HR2 := hide hs2
  have HL3 := hide hl3
  clear hv1 hs1 hv2 hs2 hl3
  have i1 : (vs.length : Int) ≤ 100000 := by omega
  have i2 : (ss.length : Int) ≤ 100000 := by omega
  have b1' : ((vs.length : Int) != vs.length) = false := by simp
  have b2' : ((ss.length : Int) != ss.length) = false := by simp
  have b3' : (r != r) = false := by simp
  go_enter Try.func21, Try.ntmps21
  go_upto_region 3 with fail
  go_name_world W hW
  obtain ⟨q1, h1⟩ : ∃ z9, z9 = w.heap.size + 1 := ⟨_, rfl⟩
  rw [← h1]
  obtain ⟨q0, h0⟩ : ∃ z9, z9 = w.heap.size := ⟨_, rfl⟩
  rw [← h0]
  have H1 : Hid (Bs W q0 r (.slice a1 vs.length c1) (.slice b1 ss.length d1) ∧ Bs W q1 r (.slice a2 vs.length c2) (.slice b2 ss.length d2) ∧ Below w.heap.size w W) := by
    unfold Hid
    rw [h1, h0]
    obtain ⟨B0, -, B1, -, u⟩ := boxes2 w _ _ _ _ _ _ _ _ W hW
    exact ⟨B0, B1, u⟩
  clear hW h1 h0 b1' b2' b3'
  have e1 := H1.out.1.c1
  have e2 := H1.out.2.1.c1
  go_wp2_with fail
  go_loopw [5] (fun sk wr => ∃ k n : Nat, wr = W.drewN n ∧ sk = .int .i64 k ∧ k ≤ vs.length) (fun sk _ => vs.length - (intOf sk).toNat)
  case atStart => exact ⟨0, 0, rfl, rfl, Nat.zero_le _⟩
  case round =>
    obtain ⟨k, n, rfl, rfl, hk⟩ := hrel
    by_cases hkv : k < vs.length
    · have hkv2 : (k : Int) < vs.length := by omega
      obtain ⟨b3, o3, x, hX, rfl, hx6⟩ := HV1.out.at hkv
      obtain ⟨b4, o4, x', hX', rfl, hy6⟩ := HV2.out.at hkv
      obtain rfl : x = x' := Option.some.inj (hX.symm.trans hX')
      have t6 := hx6.keep H1.out.2.2
      have s6 := hy6.keep H1.out.2.2
      have d0 := t6.c0
      have d1 := t6.c1
      have d2 := t6.c2
      have d3 := t6.c3
      have d4 := t6.c4
      have d5 := t6.c5
      have g0 := s6.c0
      have g1 := s6.c1
      have g2 := s6.c2
      have g3 := s6.c3
      have g4 := s6.c4
      have g5 := s6.c5
      clear hX hX' hx6 hy6 t6 s6
      go_wp2
      go_quiet (fail)
      go_wp2
      exact ⟨⟨k + 1, n + nq, rfl, by simp, by omega⟩, by simp [intOf]; omega⟩
    · have hke : k = vs.length := by omega
      subst hke
      have e3 := H1.out.1.c2
      have e4 := H1.out.2.1.c2
      go_wp2_with fail
      go_loopw [6] (fun sk wr => ∃ k n : Nat, wr = W.drewN n ∧ sk = .int .i64 k ∧ k ≤ ss.length) (fun sk _ => ss.length - (intOf sk).toNat)
      case atStart => exact ⟨0, n, rfl, rfl, Nat.zero_le _⟩
      case round =>
        obtain ⟨k, m, rfl, rfl, hk⟩ := hrel
        by_cases hkv : k < ss.length
        · have hkv2 : (k : Int) < ss.length := by omega
          obtain ⟨b3, o3, l, ai, ci, hX, rfl, f1, f2, f3, f4⟩ := HR1.out.at hkv
          obtain ⟨b4, o4, l', aj, cj, hX', rfl, f5, f6, f7, f8⟩ := HR2.out.at hkv
          obtain rfl : l = l' := Option.some.inj (hX.symm.trans hX')
          have hl := HL3.out k l hX
          have y1 := (H1.out.2.2.cell (p := ⟨b3, o3 + k, none⟩) (World.block_lt_of_cell? w _ f1)).trans f1
          have y2 := (H1.out.2.2.cell (p := ⟨b4, o4 + k, none⟩) (World.block_lt_of_cell? w _ f5)).trans f5
          have HI := hide (f2.keep' H1.out.2.2)
          have HJ := hide (f6.keep' H1.out.2.2)
          obtain ⟨V, hV⟩ : ∃ z9, z9 = W.drewN m := ⟨_, rfl⟩
          rw [← hV]
          have x1 : V.cell? ⟨b3, o3 + k, none⟩ = some (.slice ai l.length ci) := by rw [hV]; exact y1
          have x2 : V.cell? ⟨b4, o4 + k, none⟩ = some (.slice aj l.length cj) := by rw [hV]; exact y2
          have x3 : V.cell? ⟨q0, 2, none⟩ = some (.slice (some ⟨b3, o3, none⟩) ss.length d1) := by rw [hV]; exact e3
          have x4 : V.cell? ⟨q1, 2, none⟩ = some (.slice (some ⟨b4, o4, none⟩) ss.length d2) := by rw [hV]; exact e4
          have CS : ∀ z, Calls Try.prog 56 #[.slice ai l.length ci, .slice aj l.length cj] (V.drewN z) fun e w'' => e = .returned (.bool true) ∧ ∃ y, w'' = V.drewN y := fun z => by
            rw [hV]
            exact (brsame_any l l ai aj ci cj ((W.drewN m).drewN z) ((HI.out.drewN m).drewN z) ((HJ.out.drewN m).drewN z) (by omega) (by omega)).mono fun e w'' ⟨⟨y, hy⟩, he⟩ => ⟨by rw [he, show sameL l l = true from decide_eq_true rfl], z + y, by rw [hy]; simp [Nat.add_assoc]⟩
          have HVw := hide hV
          clear hX hX' f1 f2 f3 f4 f5 f6 f7 f8 y1 y2 e3 e4 hV
          go_wp2
          go_quiet ((go_at_call 56; exact CS _))
          go_wp2
          exact ⟨⟨k + 1, m + nq, by rw [HVw.out]; simp, by simp, by omega⟩, by simp [intOf]; omega⟩
        · have hke : k = ss.length := by omega
          subst hke
          go_wp2
          go_ret
          exact ⟨by simp, below_drewN H1.out.2.2 m⟩
set_option maxRecDepth 100000 in
set_option maxHeartbeats 8000000 in
theorem same_S0 (a1 b1 a2 b2 : Option Addr) (c1 d1 c2 d2 : Nat) (r : Bool) (vs : List R) (ss : List (List Int)) (w : World) (hv1 : RV w a1 vs) (hs1 : RR w b1 ss) (hv2 : RV w a2 vs) (hs2 : RR w b2 ss) (hl1 : vs.length ≤ 100000) (hl2 : ss.length ≤ 100000) (hl3 : ∀ (m : Nat) (l : List Int), ss[m]? = some l → l.length ≤ 100000) :
    Calls Try.prog 13 #[.agg #[.bool r, .slice a1 vs.length c1, .slice b1 ss.length d1], .agg #[.bool r, .slice a2 vs.length c2, .slice b2 ss.length d2]] w fun e w' => e = .returned (.bool true) ∧ Below w.heap.size w w' := by
  have HL3 := hide hl3
  have HV1' := hide hv1
  have HR1' := hide hs1
  have HV2' := hide hv2
  have HR2' := hide hs2
  clear hv1 hs1 hv2 hs2 hl3
  go_enter Try.func13, Try.ntmps13
  go_upto_region 1 with fail
  go_name_world W hW
  obtain ⟨q1, h1⟩ : ∃ z9, z9 = w.heap.size + 1 := ⟨_, rfl⟩
  rw [← h1]
  obtain ⟨q0, h0⟩ : ∃ z9, z9 = w.heap.size := ⟨_, rfl⟩
  rw [← h0]
  have H1 : Hid (Bs W q0 r (.slice a1 vs.length c1) (.slice b1 ss.length d1) ∧ Bs W q1 r (.slice a2 vs.length c2) (.slice b2 ss.length d2) ∧ Below w.heap.size w W) := by
    unfold Hid
    rw [h1, h0]
    obtain ⟨B0, -, B1, -, u⟩ := boxes2 w _ _ _ _ _ _ _ _ W hW
    exact ⟨B0, B1, u⟩
  clear hW h1 h0
  have BW := hide H1.out.2.2
  have HV1 := hide (HV1'.out.keep BW.out)
  have HV2 := hide (HV2'.out.keep BW.out)
  have HR1 := hide (HR1'.out.keep BW.out)
  have HR2 := hide (HR2'.out.keep BW.out)
  have HS : Hid (∀ w', Below W.heap.size W w' → (w'.cell? ⟨q0, 0, none⟩ = some (.bool r) ∧ w'.cell? ⟨q0, 1, none⟩ = some (.slice a1 vs.length c1) ∧ w'.cell? ⟨q0, 2, none⟩ = some (.slice b1 ss.length d1) ∧ w'.cell? ⟨q1, 0, none⟩ = some (.bool r) ∧ w'.cell? ⟨q1, 1, none⟩ = some (.slice a2 vs.length c2) ∧ w'.cell? ⟨q1, 2, none⟩ = some (.slice b2 ss.length d2))) := fun w' h => by
    have t0 := H1.out.1.keep h
    have t1 := H1.out.2.1.keep h
    exact ⟨t0.c0, t0.c1, t0.c2, t1.c0, t1.c1, t1.c2⟩
  clear H1 HV1' HV2' HR1' HR2'
  refine wp_region_held_drew (S := fun w' => w'.cell? ⟨q0, 0, none⟩ = some (.bool r) ∧ w'.cell? ⟨q0, 1, none⟩ = some (.slice a1 vs.length c1) ∧ w'.cell? ⟨q0, 2, none⟩ = some (.slice b1 ss.length d1) ∧ w'.cell? ⟨q1, 0, none⟩ = some (.bool r) ∧ w'.cell? ⟨q1, 1, none⟩ = some (.slice a2 vs.length c2) ∧ w'.cell? ⟨q1, 2, none⟩ = some (.slice b2 ss.length d2)) (by kernel_rfl) (HS.out _ (Below.refl _ _).drew) (fun hH0 => ?_)
  obtain ⟨w0, hw0⟩ : ∃ w0, w0 = W.drew := ⟨_, rfl⟩
  (try rw [← hw0] at hH0)
  rw [← hw0]
  have b0 : Hid (Below W.heap.size W w0) := hw0 ▸ hide (Below.refl _ _).drew
  clear hw0
  refine wpAnyH_take (i := 0) (oi := ({ dst := some 5, op := Op.load 29 (Operand.tmp 2), type := 29, pos := "law.go:36", after := #[], guard := none } : Oper)) (v := ?_) rfl (by kernel_rfl) (by kernel_rfl) (by kernel_rfl) (fun _ _ _ h => h) (Or.inl ⟨by rfl, ?_⟩) (by assumption) ?_
  rotate_left
  · (intro wz hSw; (try dsimp only at hSw); go_simp; try with_reducible rfl)
  simp only [Act.put, List.setIfInBounds_toArray, List.set_cons_zero, List.set_cons_succ]
  refine wpAnyH_take (i := 2) (oi := ({ dst := some 7, op := Op.load 25 (Operand.tmp 3), type := 25, pos := "law.go:36", after := #[], guard := none } : Oper)) (v := ?_) rfl (by kernel_rfl) (by kernel_rfl) (by kernel_rfl) (fun _ _ _ h => h) (Or.inl ⟨by rfl, ?_⟩) (by assumption) ?_
  rotate_left
  · (intro wz hSw; (try dsimp only at hSw); go_simp; try with_reducible rfl)
  simp only [Act.put, List.setIfInBounds_toArray, List.set_cons_zero, List.set_cons_succ]
  refine wpAnyH_ready (rs := [1]) (by kernel_rfl) (by simp) ?_
  refine AllReadyH.cons (o := ({ dst := some 6, op := Op.call { callee := Callee.value (Operand.func 42), args := #[Operand.tmp 5], argTypes := #[29] }, type := 25, pos := "law.go:36", after := #[{ on := 0, ground := Ground.data }], guard := none } : Oper)) rfl (fun K hK => ?_) AllReadyH.nil
  · go_simp
    go_at_call 42
    refine (from_S a1 b1 c1 d1 r vs ss _ (HV1.out.keep b0.out) (HR1.out.keep b0.out) hl1 hl2 HL3.out).mono ?_
    rintro e w1 ⟨v, rfl, hR, hb1⟩
    obtain ⟨a3, c3, b3, d3, rfl, k1, k2, -, -, -, -⟩ := hR.rs
    dsimp only at k1 k2 ⊢
    have b1 := hide (b0.out.trans (hb1.mono b0.out.size))
    have K1 := hide k1
    have K2 := hide k2
    refine hK.out _ _ (HS.out _ b1.out) (fun hH1 => ?_)
    clear hK K hb1 k1 k2
    refine wpAnyH_ready (rs := [3]) (by kernel_rfl) (by simp) ?_
    refine AllReadyH.cons (o := ({ dst := some 8, op := Op.call { callee := Callee.value (Operand.func 21), args := #[Operand.tmp 6, Operand.tmp 7], argTypes := #[25, 25] }, type := 4, pos := "law.go:36", after := #[{ on := 1, ground := Ground.data }, { on := 2, ground := Ground.data }, { on := 1, ground := Ground.chain }], guard := none } : Oper)) rfl (fun K hK => ?_) AllReadyH.nil
    · go_simp
      go_at_call 21
      refine (equalr_S a3 b3 a2 b2 c3 d3 c2 d2 r vs ss _ K1.out K2.out (HV2.out.keep b1.out) (HR2.out.keep b1.out) hl1 hl2 HL3.out).mono ?_
      rintro e w2 ⟨rfl, hb2⟩
      have b2 := hide (b1.out.trans (hb2.mono b1.out.size))
      refine hK.out _ _ (HS.out _ b2.out) (fun hH2 => ?_)
      clear hK K hb2
      refine wpAnyH_take (i := 4) (oi := ({ dst := some 4, op := Op.assign (Operand.tmp 8), type := 4, pos := "law.go:36", after := #[{ on := 3, ground := Ground.data }, { on := 3, ground := Ground.chain }, { on := 0, ground := Ground.phase }, { on := 1, ground := Ground.phase }, { on := 2, ground := Ground.phase }, { on := 3, ground := Ground.phase }], guard := none } : Oper)) (v := ?_) rfl (by kernel_rfl) (by kernel_rfl) (by kernel_rfl) (fun _ _ _ h => h) (Or.inl ⟨by rfl, ?_⟩) (by assumption) ?_
      rotate_left
      · (intro wz hSw; (try dsimp only at hSw); go_simp; try with_reducible rfl)
      simp only [Act.put, List.setIfInBounds_toArray, List.set_cons_zero, List.set_cons_succ]
      refine wpAnyH_done (by kernel_rfl) ?_ _
      go_wp2
      go_ret
      exact ⟨by simp, BW.out.trans (b2.out.mono BW.out.size)⟩
/-- two that are the same -/
theorem same_S {v1 v2 : Value} {s : S} {w : World} (h1 : Rs w v1 s) (h2 : Rs w v2 s) (hl1 : s.vs.length ≤ 100000) (hl2 : s.ss.length ≤ 100000) (hl3 : ∀ (m : Nat) (l : List Int), s.ss[m]? = some l → l.length ≤ 100000) : Calls Try.prog 13 #[v1, v2] w fun e w' => e = .returned (.bool true) ∧ Below w.heap.size w w' := by
  obtain ⟨a, c, b, d, rfl, k1, k2, -⟩ := h1
  obtain ⟨a2, c2, b2, d2, rfl, k3, k4, -⟩ := h2
  exact same_S0 a b a2 b2 c d c2 d2 s.r s.vs s.ss w k1 k2 k3 k4 hl1 hl2 hl3
end Go.Proofs.Ytmhicllhjiglkaa
namespace Go.Proofs.Ytmhicllhjiglkaa
open Go.RowKit
set_option maxRecDepth 100000 in
set_option maxHeartbeats 16000000 in
theorem rightr_V (s : Int) (k : Bool) (n lo hi p : Int) (w : World) : Calls Try.prog 61 #[.agg #[.int .i64 s, .bool k, .int .i64 n, .int .i64 lo, .int .i64 hi, .int .i64 p]] w fun e w' => e = .returned (.bool (rightR s k n lo hi p)) ∧ Below w.heap.size w w' := by
  by_cases h0 : 1 ≤ s
  · by_cases h1 : s ≤ 7
    · cases k
      · by_cases hn : n = 0
        · subst hn
          by_cases h3 : lo ≤ hi
          · by_cases h4 : 1 ≤ p
            · by_cases h5 : p ≤ 3
              · have HR : Hid (rightR s false 0 lo hi p = true) := by unfold Hid rightR rightK; simp [*]
                generalize rightR s false 0 lo hi p = r at *
                have x0 : Br (w.alloc (.cells #[.int .i64 s, .bool false, .int .i64 0, .int .i64 lo, .int .i64 hi, .int .i64 p] 48)) (w.heap.size) s false 0 lo hi p := (Br.new w s false 0 lo hi p 48)
                have xb : Below w.heap.size w (w.alloc (.cells #[.int .i64 s, .bool false, .int .i64 0, .int .i64 lo, .int .i64 hi, .int .i64 p] 48)) := (by repeat (first | exact Below.refl _ _ | (refine Below.drew ?_) | (refine below_drewN ?_ _) | (refine Below.setCell ?_ (by first | omega | (simp; done) | (simp; omega)) _) | (refine Below.alloc ?_ (by first | omega | (simp; done) | (simp; omega)) _) | (refine Below.trans ?_ (Below.mono (by assumption) (by first | omega | (simp; done) | (simp; omega))))))
                go_enter Try.func61, Try.ntmps61
                go_upto_region 1 with fail
                go_name_world W hW
                rw [hW] at x0 xb
                clear hW
                obtain ⟨N, hN⟩ : ∃ N, N = w.heap.size := ⟨_, rfl⟩
                rw [← hN] at x0 xb ⊢
                have HN : Hid (N = w.heap.size) := hN
                clear hN
                have a0 := x0.c0
                have a1 := x0.c1
                have a2 := x0.c2
                have a3 := x0.c3
                have a4 := x0.c4
                have a5 := x0.c5
                clear x0
                go_wp2_with fail
                go_ret
                exact ⟨by rw [HR.out] <;> rfl, by rw [← HN.out]; exact xb⟩
              · have HR : Hid (rightR s false 0 lo hi p = false) := by unfold Hid rightR rightK; simp [*]
                generalize rightR s false 0 lo hi p = r at *
                have x0 : Br (w.alloc (.cells #[.int .i64 s, .bool false, .int .i64 0, .int .i64 lo, .int .i64 hi, .int .i64 p] 48)) (w.heap.size) s false 0 lo hi p := (Br.new w s false 0 lo hi p 48)
                have xb : Below w.heap.size w (w.alloc (.cells #[.int .i64 s, .bool false, .int .i64 0, .int .i64 lo, .int .i64 hi, .int .i64 p] 48)) := (by repeat (first | exact Below.refl _ _ | (refine Below.drew ?_) | (refine below_drewN ?_ _) | (refine Below.setCell ?_ (by first | omega | (simp; done) | (simp; omega)) _) | (refine Below.alloc ?_ (by first | omega | (simp; done) | (simp; omega)) _) | (refine Below.trans ?_ (Below.mono (by assumption) (by first | omega | (simp; done) | (simp; omega))))))
                go_enter Try.func61, Try.ntmps61
                go_upto_region 1 with fail
                go_name_world W hW
                rw [hW] at x0 xb
                clear hW
                obtain ⟨N, hN⟩ : ∃ N, N = w.heap.size := ⟨_, rfl⟩
                rw [← hN] at x0 xb ⊢
                have HN : Hid (N = w.heap.size) := hN
                clear hN
                have a0 := x0.c0
                have a1 := x0.c1
                have a2 := x0.c2
                have a3 := x0.c3
                have a4 := x0.c4
                have a5 := x0.c5
                clear x0
                go_wp2_with fail
                go_ret
                exact ⟨by rw [HR.out] <;> rfl, by rw [← HN.out]; exact xb⟩
            · have HR : Hid (rightR s false 0 lo hi p = false) := by unfold Hid rightR rightK; simp [*]
              generalize rightR s false 0 lo hi p = r at *
              have x0 : Br (w.alloc (.cells #[.int .i64 s, .bool false, .int .i64 0, .int .i64 lo, .int .i64 hi, .int .i64 p] 48)) (w.heap.size) s false 0 lo hi p := (Br.new w s false 0 lo hi p 48)
              have xb : Below w.heap.size w (w.alloc (.cells #[.int .i64 s, .bool false, .int .i64 0, .int .i64 lo, .int .i64 hi, .int .i64 p] 48)) := (by repeat (first | exact Below.refl _ _ | (refine Below.drew ?_) | (refine below_drewN ?_ _) | (refine Below.setCell ?_ (by first | omega | (simp; done) | (simp; omega)) _) | (refine Below.alloc ?_ (by first | omega | (simp; done) | (simp; omega)) _) | (refine Below.trans ?_ (Below.mono (by assumption) (by first | omega | (simp; done) | (simp; omega))))))
              go_enter Try.func61, Try.ntmps61
              go_upto_region 1 with fail
              go_name_world W hW
              rw [hW] at x0 xb
              clear hW
              obtain ⟨N, hN⟩ : ∃ N, N = w.heap.size := ⟨_, rfl⟩
              rw [← hN] at x0 xb ⊢
              have HN : Hid (N = w.heap.size) := hN
              clear hN
              have a0 := x0.c0
              have a1 := x0.c1
              have a2 := x0.c2
              have a3 := x0.c3
              have a4 := x0.c4
              have a5 := x0.c5
              clear x0
              go_wp2_with fail
              go_ret
              exact ⟨by rw [HR.out] <;> rfl, by rw [← HN.out]; exact xb⟩
          · have HR : Hid (rightR s false 0 lo hi p = false) := by unfold Hid rightR rightK; simp [*]
            generalize rightR s false 0 lo hi p = r at *
            have x0 : Br (w.alloc (.cells #[.int .i64 s, .bool false, .int .i64 0, .int .i64 lo, .int .i64 hi, .int .i64 p] 48)) (w.heap.size) s false 0 lo hi p := (Br.new w s false 0 lo hi p 48)
            have xb : Below w.heap.size w (w.alloc (.cells #[.int .i64 s, .bool false, .int .i64 0, .int .i64 lo, .int .i64 hi, .int .i64 p] 48)) := (by repeat (first | exact Below.refl _ _ | (refine Below.drew ?_) | (refine below_drewN ?_ _) | (refine Below.setCell ?_ (by first | omega | (simp; done) | (simp; omega)) _) | (refine Below.alloc ?_ (by first | omega | (simp; done) | (simp; omega)) _) | (refine Below.trans ?_ (Below.mono (by assumption) (by first | omega | (simp; done) | (simp; omega))))))
            go_enter Try.func61, Try.ntmps61
            go_upto_region 1 with fail
            go_name_world W hW
            rw [hW] at x0 xb
            clear hW
            obtain ⟨N, hN⟩ : ∃ N, N = w.heap.size := ⟨_, rfl⟩
            rw [← hN] at x0 xb ⊢
            have HN : Hid (N = w.heap.size) := hN
            clear hN
            have a0 := x0.c0
            have a1 := x0.c1
            have a2 := x0.c2
            have a3 := x0.c3
            have a4 := x0.c4
            have a5 := x0.c5
            clear x0
            go_wp2_with fail
            go_ret
            exact ⟨by rw [HR.out] <;> rfl, by rw [← HN.out]; exact xb⟩
        · have HR : Hid (rightR s false n lo hi p = false) := by unfold Hid rightR rightK; simp [*]
          generalize rightR s false n lo hi p = r at *
          have x0 : Br (w.alloc (.cells #[.int .i64 s, .bool false, .int .i64 n, .int .i64 lo, .int .i64 hi, .int .i64 p] 48)) (w.heap.size) s false n lo hi p := (Br.new w s false n lo hi p 48)
          have xb : Below w.heap.size w (w.alloc (.cells #[.int .i64 s, .bool false, .int .i64 n, .int .i64 lo, .int .i64 hi, .int .i64 p] 48)) := (by repeat (first | exact Below.refl _ _ | (refine Below.drew ?_) | (refine below_drewN ?_ _) | (refine Below.setCell ?_ (by first | omega | (simp; done) | (simp; omega)) _) | (refine Below.alloc ?_ (by first | omega | (simp; done) | (simp; omega)) _) | (refine Below.trans ?_ (Below.mono (by assumption) (by first | omega | (simp; done) | (simp; omega))))))
          go_enter Try.func61, Try.ntmps61
          go_upto_region 1 with fail
          go_name_world W hW
          rw [hW] at x0 xb
          clear hW
          obtain ⟨N, hN⟩ : ∃ N, N = w.heap.size := ⟨_, rfl⟩
          rw [← hN] at x0 xb ⊢
          have HN : Hid (N = w.heap.size) := hN
          clear hN
          have a0 := x0.c0
          have a1 := x0.c1
          have a2 := x0.c2
          have a3 := x0.c3
          have a4 := x0.c4
          have a5 := x0.c5
          clear x0
          go_wp2_with fail
          go_ret
          exact ⟨by rw [HR.out] <;> rfl, by rw [← HN.out]; exact xb⟩
      · by_cases h3 : lo ≤ hi
        · by_cases h4 : 1 ≤ p
          · by_cases h5 : p ≤ 3
            · have HR : Hid (rightR s true n lo hi p = true) := by unfold Hid rightR rightK; simp [*]
              generalize rightR s true n lo hi p = r at *
              have x0 : Br (w.alloc (.cells #[.int .i64 s, .bool true, .int .i64 n, .int .i64 lo, .int .i64 hi, .int .i64 p] 48)) (w.heap.size) s true n lo hi p := (Br.new w s true n lo hi p 48)
              have xb : Below w.heap.size w (w.alloc (.cells #[.int .i64 s, .bool true, .int .i64 n, .int .i64 lo, .int .i64 hi, .int .i64 p] 48)) := (by repeat (first | exact Below.refl _ _ | (refine Below.drew ?_) | (refine below_drewN ?_ _) | (refine Below.setCell ?_ (by first | omega | (simp; done) | (simp; omega)) _) | (refine Below.alloc ?_ (by first | omega | (simp; done) | (simp; omega)) _) | (refine Below.trans ?_ (Below.mono (by assumption) (by first | omega | (simp; done) | (simp; omega))))))
              go_enter Try.func61, Try.ntmps61
              go_upto_region 1 with fail
              go_name_world W hW
              rw [hW] at x0 xb
              clear hW
              obtain ⟨N, hN⟩ : ∃ N, N = w.heap.size := ⟨_, rfl⟩
              rw [← hN] at x0 xb ⊢
              have HN : Hid (N = w.heap.size) := hN
              clear hN
              have a0 := x0.c0
              have a1 := x0.c1
              have a2 := x0.c2
              have a3 := x0.c3
              have a4 := x0.c4
              have a5 := x0.c5
              clear x0
              go_wp2_with fail
              go_ret
              exact ⟨by rw [HR.out] <;> rfl, by rw [← HN.out]; exact xb⟩
            · have HR : Hid (rightR s true n lo hi p = false) := by unfold Hid rightR rightK; simp [*]
              generalize rightR s true n lo hi p = r at *
              have x0 : Br (w.alloc (.cells #[.int .i64 s, .bool true, .int .i64 n, .int .i64 lo, .int .i64 hi, .int .i64 p] 48)) (w.heap.size) s true n lo hi p := (Br.new w s true n lo hi p 48)
              have xb : Below w.heap.size w (w.alloc (.cells #[.int .i64 s, .bool true, .int .i64 n, .int .i64 lo, .int .i64 hi, .int .i64 p] 48)) := (by repeat (first | exact Below.refl _ _ | (refine Below.drew ?_) | (refine below_drewN ?_ _) | (refine Below.setCell ?_ (by first | omega | (simp; done) | (simp; omega)) _) | (refine Below.alloc ?_ (by first | omega | (simp; done) | (simp; omega)) _) | (refine Below.trans ?_ (Below.mono (by assumption) (by first | omega | (simp; done) | (simp; omega))))))
              go_enter Try.func61, Try.ntmps61
              go_upto_region 1 with fail
              go_name_world W hW
              rw [hW] at x0 xb
              clear hW
              obtain ⟨N, hN⟩ : ∃ N, N = w.heap.size := ⟨_, rfl⟩
              rw [← hN] at x0 xb ⊢
              have HN : Hid (N = w.heap.size) := hN
              clear hN
              have a0 := x0.c0
              have a1 := x0.c1
              have a2 := x0.c2
              have a3 := x0.c3
              have a4 := x0.c4
              have a5 := x0.c5
              clear x0
              go_wp2_with fail
              go_ret
              exact ⟨by rw [HR.out] <;> rfl, by rw [← HN.out]; exact xb⟩
          · have HR : Hid (rightR s true n lo hi p = false) := by unfold Hid rightR rightK; simp [*]
            generalize rightR s true n lo hi p = r at *
            have x0 : Br (w.alloc (.cells #[.int .i64 s, .bool true, .int .i64 n, .int .i64 lo, .int .i64 hi, .int .i64 p] 48)) (w.heap.size) s true n lo hi p := (Br.new w s true n lo hi p 48)
            have xb : Below w.heap.size w (w.alloc (.cells #[.int .i64 s, .bool true, .int .i64 n, .int .i64 lo, .int .i64 hi, .int .i64 p] 48)) := (by repeat (first | exact Below.refl _ _ | (refine Below.drew ?_) | (refine below_drewN ?_ _) | (refine Below.setCell ?_ (by first | omega | (simp; done) | (simp; omega)) _) | (refine Below.alloc ?_ (by first | omega | (simp; done) | (simp; omega)) _) | (refine Below.trans ?_ (Below.mono (by assumption) (by first | omega | (simp; done) | (simp; omega))))))
            go_enter Try.func61, Try.ntmps61
            go_upto_region 1 with fail
            go_name_world W hW
            rw [hW] at x0 xb
            clear hW
            obtain ⟨N, hN⟩ : ∃ N, N = w.heap.size := ⟨_, rfl⟩
            rw [← hN] at x0 xb ⊢
            have HN : Hid (N = w.heap.size) := hN
            clear hN
            have a0 := x0.c0
            have a1 := x0.c1
            have a2 := x0.c2
            have a3 := x0.c3
            have a4 := x0.c4
            have a5 := x0.c5
            clear x0
            go_wp2_with fail
            go_ret
            exact ⟨by rw [HR.out] <;> rfl, by rw [← HN.out]; exact xb⟩
        · have HR : Hid (rightR s true n lo hi p = false) := by unfold Hid rightR rightK; simp [*]
          generalize rightR s true n lo hi p = r at *
          have x0 : Br (w.alloc (.cells #[.int .i64 s, .bool true, .int .i64 n, .int .i64 lo, .int .i64 hi, .int .i64 p] 48)) (w.heap.size) s true n lo hi p := (Br.new w s true n lo hi p 48)
          have xb : Below w.heap.size w (w.alloc (.cells #[.int .i64 s, .bool true, .int .i64 n, .int .i64 lo, .int .i64 hi, .int .i64 p] 48)) := (by repeat (first | exact Below.refl _ _ | (refine Below.drew ?_) | (refine below_drewN ?_ _) | (refine Below.setCell ?_ (by first | omega | (simp; done) | (simp; omega)) _) | (refine Below.alloc ?_ (by first | omega | (simp; done) | (simp; omega)) _) | (refine Below.trans ?_ (Below.mono (by assumption) (by first | omega | (simp; done) | (simp; omega))))))
          go_enter Try.func61, Try.ntmps61
          go_upto_region 1 with fail
          go_name_world W hW
          rw [hW] at x0 xb
          clear hW
          obtain ⟨N, hN⟩ : ∃ N, N = w.heap.size := ⟨_, rfl⟩
          rw [← hN] at x0 xb ⊢
          have HN : Hid (N = w.heap.size) := hN
          clear hN
          have a0 := x0.c0
          have a1 := x0.c1
          have a2 := x0.c2
          have a3 := x0.c3
          have a4 := x0.c4
          have a5 := x0.c5
          clear x0
          go_wp2_with fail
          go_ret
          exact ⟨by rw [HR.out] <;> rfl, by rw [← HN.out]; exact xb⟩
    · have HR : Hid (rightR s k n lo hi p = false) := by unfold Hid rightR rightK; simp [*]
      generalize rightR s k n lo hi p = r at *
      have x0 : Br (w.alloc (.cells #[.int .i64 s, .bool k, .int .i64 n, .int .i64 lo, .int .i64 hi, .int .i64 p] 48)) (w.heap.size) s k n lo hi p := (Br.new w s k n lo hi p 48)
      have xb : Below w.heap.size w (w.alloc (.cells #[.int .i64 s, .bool k, .int .i64 n, .int .i64 lo, .int .i64 hi, .int .i64 p] 48)) := (by repeat (first | exact Below.refl _ _ | (refine Below.drew ?_) | (refine below_drewN ?_ _) | (refine Below.setCell ?_ (by first | omega | (simp; done) | (simp; omega)) _) | (refine Below.alloc ?_ (by first | omega | (simp; done) | (simp; omega)) _) | (refine Below.trans ?_ (Below.mono (by assumption) (by first | omega | (simp; done) | (simp; omega))))))
      go_enter Try.func61, Try.ntmps61
      go_upto_region 1 with fail
      go_name_world W hW
      rw [hW] at x0 xb
      clear hW
      obtain ⟨N, hN⟩ : ∃ N, N = w.heap.size := ⟨_, rfl⟩
      rw [← hN] at x0 xb ⊢
      have HN : Hid (N = w.heap.size) := hN
      clear hN
      have a0 := x0.c0
      have a1 := x0.c1
      have a2 := x0.c2
      have a3 := x0.c3
      have a4 := x0.c4
      have a5 := x0.c5
      clear x0
      go_wp2_with fail
      go_ret
      exact ⟨by rw [HR.out] <;> rfl, by rw [← HN.out]; exact xb⟩
  · have HR : Hid (rightR s k n lo hi p = false) := by unfold Hid rightR rightK; simp [*]
    generalize rightR s k n lo hi p = r at *
    have x0 : Br (w.alloc (.cells #[.int .i64 s, .bool k, .int .i64 n, .int .i64 lo, .int .i64 hi, .int .i64 p] 48)) (w.heap.size) s k n lo hi p := (Br.new w s k n lo hi p 48)
    have xb : Below w.heap.size w (w.alloc (.cells #[.int .i64 s, .bool k, .int .i64 n, .int .i64 lo, .int .i64 hi, .int .i64 p] 48)) := (by repeat (first | exact Below.refl _ _ | (refine Below.drew ?_) | (refine below_drewN ?_ _) | (refine Below.setCell ?_ (by first | omega | (simp; done) | (simp; omega)) _) | (refine Below.alloc ?_ (by first | omega | (simp; done) | (simp; omega)) _) | (refine Below.trans ?_ (Below.mono (by assumption) (by first | omega | (simp; done) | (simp; omega))))))
    go_enter Try.func61, Try.ntmps61
    go_upto_region 1 with fail
    go_name_world W hW
    rw [hW] at x0 xb
    clear hW
    obtain ⟨N, hN⟩ : ∃ N, N = w.heap.size := ⟨_, rfl⟩
    rw [← hN] at x0 xb ⊢
    have HN : Hid (N = w.heap.size) := hN
    clear hN
    have a0 := x0.c0
    have a1 := x0.c1
    have a2 := x0.c2
    have a3 := x0.c3
    have a4 := x0.c4
    have a5 := x0.c5
    clear x0
    go_wp2_with fail
    go_ret
    exact ⟨by rw [HR.out] <;> rfl, by rw [← HN.out]; exact xb⟩
end Go.Proofs.Ytmhicllhjiglkaa
namespace Go.Proofs.Ytmhicllhjiglkaa
open Go.RowKit
/-- all are Right -/
def rightL2 (sites : Int) : List R → List (List Int) → Bool
  | x :: t, l :: u => (rightR x.s x.k x.n x.lo x.hi x.p && ((decide (0 ≤ sites) && decide (sites ≤ 4096)) && rightL sites 0 l)) && rightL2 sites t u
  | _, _ => true
/-- may it be so? -/
def rightS (r : Bool) (vs : List R) (ss : List (List Int)) (regs sites : Int) : Bool :=
  if r = false then (decide (vs.length = 0) && decide (ss.length = 0)) else (decide ((vs.length : Int) = regs) && decide ((ss.length : Int) = regs)) && rightL2 sites vs ss
set_option maxRecDepth 100000 in
set_option maxHeartbeats 8000000 in
theorem right_S (a b : Option Addr) (c d : Nat) (r : Bool) (vs : List R) (ss : List (List Int)) (regs sites : Int) (w : World) (hv : RV w a vs) (hs : RR w b ss) (hl1 : vs.length ≤ 100000) (hl3 : ∀ (m : Nat) (l : List Int), ss[m]? = some l → l.length ≤ 100000) :
    Calls Try.prog 23 #[.agg #[.bool r, .slice a vs.length c, .slice b ss.length d], .int .i64 regs, .int .i64 sites] w fun e w' => e = .returned (.bool (rightS r vs ss regs sites)) ∧ Below w.heap.size w w' := by
  have HV := hide hv
  have HR := hide hs
  have HL3 := hide hl3
  have hl2 : (vs.length : Int) ≤ 100000 := by omega
  clear hv hs hl3
  cases r with
  | false =>
    by_cases h1 : vs.length = 0
    · by_cases h2 : ss.length = 0
      · have e : rightS false vs ss regs sites = true := by simp [rightS, h1, h2]
        rw [e]
        have b1 : ((vs.length : Int) == 0) = true := by simp [h1]
        have b2 : ((ss.length : Int) == 0) = true := by simp [h2]
        clear h1 h2 e
        go_enter Try.func23, Try.ntmps23
        go_wp2
        go_ret
        exact ⟨by simp, (Below.refl _ _).alloc (Nat.le_refl _) _⟩
      · have e : rightS false vs ss regs sites = false := by simp [rightS, h1, h2]
        rw [e]
        have b1 : ((vs.length : Int) == 0) = true := by simp [h1]
        have b2 : ((ss.length : Int) == 0) = false := beq_eq_false_iff_ne.2 (by omega)
        clear h1 h2 e
        go_enter Try.func23, Try.ntmps23
        go_wp2
        go_ret
        exact ⟨by simp, (Below.refl _ _).alloc (Nat.le_refl _) _⟩
    · have e : rightS false vs ss regs sites = false := by simp [rightS, h1]
      rw [e]
      have b1 : ((vs.length : Int) == 0) = false := beq_eq_false_iff_ne.2 (by omega)
      clear h1 e
      go_enter Try.func23, Try.ntmps23
      go_wp2
      go_ret
      exact ⟨by simp, (Below.refl _ _).alloc (Nat.le_refl _) _⟩
  | true =>
    by_cases h1 : (vs.length : Int) = regs
    · subst h1
      by_cases h2 : ss.length = vs.length
      · have e : rightS true vs ss vs.length sites = rightL2 sites vs ss := by simp [rightS, h2]
        rw [e]
        have b1 : ((vs.length : Int) != vs.length) = false := by simp
        have b2 : ((ss.length : Int) != vs.length) = false := by simp [h2]
        have h2' := hide h2
        clear h2 e
        go_enter Try.func23, Try.ntmps23
        go_upto_region 5 with fail
        go_name_world W hW
        obtain ⟨q0, h0⟩ : ∃ z9, z9 = w.heap.size := ⟨_, rfl⟩
        rw [← h0]
        have FQ : Hid (w.heap.size ≤ q0) := by unfold Hid; omega
        have H1 : Hid (Bs W q0 true (.slice a vs.length c) (.slice b ss.length d) ∧ Below w.heap.size w W) := by
          unfold Hid
          obtain ⟨B0, -, u⟩ := box1 w _ _ _ _ W hW
          rw [h0]
          exact ⟨B0, u⟩
        clear hW h0 b1 b2
        go_wp2_with fail
        go_loopw [34] (fun sk wr => ∃ (k : Nat), sk = .int .i64 k ∧ k ≤ vs.length ∧ Hid (Bs wr q0 true (.slice a vs.length c) (.slice b ss.length d) ∧ Below w.heap.size w wr ∧ rightL2 sites (vs.drop k) (ss.drop k) = rightL2 sites vs ss)) (fun sk _ => vs.length - (intOf sk).toNat)
        case atStart => exact ⟨0, rfl, Nat.zero_le _, H1.out.1, H1.out.2, rfl⟩
        case round =>
          obtain ⟨k, rfl, hk, h4⟩ := hrel
          clear H1
          by_cases hkv : k < vs.length
          · have hkv2 : (k : Int) < vs.length := by omega
            have hks : k < ss.length := by have := h2'.out; omega
            have hks2 : (k : Int) < ss.length := by omega
            obtain ⟨b1, o1, x, hX, rfl, hx6⟩ := HV.out.at hkv
            obtain ⟨b2, o2, l, ai, ci, hX2, rfl, hc1, hc2, hc3, hc4⟩ := HR.out.at hks
            have hl := HL3.out k l hX2
            have HD : Hid (rightL2 sites vs ss = ((rightR x.s x.k x.n x.lo x.hi x.p && ((decide (0 ≤ sites) && decide (sites ≤ 4096)) && rightL sites 0 l)) && rightL2 sites (vs.drop (k + 1)) (ss.drop (k + 1)))) := hide (by
              rw [← h4.out.2.2, List.drop_eq_getElem_cons hkv, List.drop_eq_getElem_cons hks]
              obtain ⟨_, e1⟩ := List.getElem?_eq_some_iff.1 hX
              obtain ⟨_, e2⟩ := List.getElem?_eq_some_iff.1 hX2
              rw [e1, e2]; rfl)
            have t6 := hx6.keep h4.out.2.1
            have d0 := t6.c0
            have d1 := t6.c1
            have d2 := t6.c2
            have d3 := t6.c3
            have d4 := t6.c4
            have d5 := t6.c5
            have e1 := h4.out.1.c1
            have HB := hide h4.out.1
            have HW := hide h4.out.2.1
            have HC := hide hc1
            have HI := hide hc2
            clear hX hX2 hx6 t6 h4 hc1 hc2 hc3 hc4
            have cF := fun w => right_V x.s x.k x.n x.lo x.hi x.p w
            generalize rightR x.s x.k x.n x.lo x.hi x.p = bv at *
            cases bv with
            | false =>
              have HE : Hid (rightL2 sites vs ss = false) := hide (by rw [HD.out]; rfl)
              clear HD
              go_wp2_with (go_at_call 59; refine (cF _).mono ?_; rintro e wA ⟨rfl, hA⟩; have bA := hide hA; clear hA)
              go_ret
              exact ⟨by rw [HE.out]; rfl, HW.out.trans (bA.out.mono HW.out.size)⟩
            | true =>
              have HD2 : Hid (rightL2 sites vs ss = (((decide (0 ≤ sites) && decide (sites ≤ 4096)) && rightL sites 0 l) && rightL2 sites (vs.drop (k + 1)) (ss.drop (k + 1)))) := hide (by rw [HD.out, Bool.true_and])
              clear HD
              have cB := fun w h => bright_any sites l ai ci w h (by omega)
              generalize ((decide (0 ≤ sites) && decide (sites ≤ 4096)) && rightL sites 0 l) = bb at *
              cases bb with
              | false =>
                have HE : Hid (rightL2 sites vs ss = false) := hide (by rw [HD2.out]; rfl)
                clear HD2
                go_wp2_with (first | (go_at_call 59; refine (cF _).mono ?_; rintro e wA ⟨rfl, hA⟩; have bA := hide hA; have e2 := (HB.out.keep hA).c2; have g2 := ((HW.out.trans (hA.mono HW.out.size)).cell (p := ⟨b2, o2 + k, none⟩) (World.block_lt_of_cell? w _ HC.out)).trans HC.out; clear hA cF d0 d1 d2 d3 d4 d5 e1) | (go_at_call 60; refine (cB _ (HI.out.keep' (HW.out.trans (bA.out.mono HW.out.size)))).mono ?_; rintro e wB ⟨hw, rfl⟩; obtain rfl := hw.symm))
                go_ret
                exact ⟨by rw [HE.out]; rfl, HW.out.trans (bA.out.mono HW.out.size)⟩
              | true =>
                have HE : Hid (rightL2 sites vs ss = rightL2 sites (vs.drop (k + 1)) (ss.drop (k + 1))) := hide (by rw [HD2.out, Bool.true_and])
                clear HD2
                go_wp2_with (first | (go_at_call 59; refine (cF _).mono ?_; rintro e wA ⟨rfl, hA⟩; have bA := hide hA; have e2 := (HB.out.keep hA).c2; have g2 := ((HW.out.trans (hA.mono HW.out.size)).cell (p := ⟨b2, o2 + k, none⟩) (World.block_lt_of_cell? w _ HC.out)).trans HC.out; clear hA cF d0 d1 d2 d3 d4 d5 e1) | (go_at_call 60; refine (cB _ (HI.out.keep' (HW.out.trans (bA.out.mono HW.out.size)))).mono ?_; rintro e wB ⟨hw, rfl⟩; obtain rfl := hw.symm))
                refine ⟨⟨k + 1, by simp, by omega, ⟨HB.out.keep bA.out, HW.out.trans (bA.out.mono HW.out.size), HE.out.symm⟩⟩, by simp [intOf]; omega⟩
          · have hke : k = vs.length := by omega
            subst hke
            have HE : Hid (rightL2 sites vs ss = true) := hide (by rw [← h4.out.2.2, List.drop_of_length_le (Nat.le_refl _)]; rfl)
            go_wp2_with fail
            go_ret
            exact ⟨by rw [HE.out]; rfl, h4.out.2.1⟩
      · have e : rightS true vs ss vs.length sites = false := by simp [rightS]; intro t; omega
        rw [e]
        have b1 : ((vs.length : Int) != vs.length) = false := by simp
        have b2 : ((ss.length : Int) != vs.length) = true := by rw [bne_iff_ne]; omega
        clear h2 e
        go_enter Try.func23, Try.ntmps23
        go_wp2
        go_ret
        exact ⟨by simp, (Below.refl _ _).alloc (Nat.le_refl _) _⟩
    · have e : rightS true vs ss regs sites = false := by simp [rightS, h1]
      rw [e]
      have b1 : ((vs.length : Int) != regs) = true := by rw [bne_iff_ne]; exact h1
      clear h1 e
      go_enter Try.func23, Try.ntmps23
      go_wp2
      go_ret
      exact ⟨by simp, (Below.refl _ _).alloc (Nat.le_refl _) _⟩
end Go.Proofs.Ytmhicllhjiglkaa
