import Derived.Test.YtmhicllhjiglkaaG11
import Derived.Deep.RegionHeld3
import Derived.Test.YtmhicllhjiglkaaG18
namespace Go.Proofs.Ytmhicllhjiglkaa
open Go.RowKit
theorem up_17 : ∀ x : BitVec 3, x ≠ 0 → 1 ≤ up x ∧ up x ≤ 7 := by decide
theorem up_13 : ∀ x : BitVec 3, x ≠ 0 → x &&& 3 = x → 1 ≤ up x ∧ up x ≤ 3 := by decide
theorem rightR_ok {u : V} (h : u.ok) : rightR u.raw.s u.raw.k u.raw.n u.raw.lo u.raw.hi u.raw.p = true := by
  have h1 := up_17 u.s h.s
  have h2 := up_13 u.p h.p h.p3
  have h3 := h.sp
  have h4 := h.n
  unfold Sp at h3
  dsimp only at h3
  unfold rightR V.raw rightK
  dsimp only
  cases hk : u.k with
  | true => simp; omega
  | false => rw [h4 hk]; simp; omega
theorem rightL_ok (n : Int) : ∀ (l : List Int) (least : Int), UpP l → (∀ y ∈ l, least ≤ y ∧ y < n) → rightL n least l = true := by
  intro l
  induction l with
  | nil => intro _ _ _; rfl
  | cons x t ih =>
    intro least hu hb
    have h1 := hb x (by simp)
    have h2 := List.pairwise_cons.1 hu
    rw [rightL, if_neg (by omega)]
    exact ih _ h2.2 (fun y hy => by have := h2.1 y hy; have := hb y (by simp [hy]); omega)
theorem rightL2_ok (k : Nat) (hk : k ≤ 4096) : ∀ (us : List V) (ss : List (List Int)), (∀ u ∈ us, u.ok) → (∀ l ∈ ss, UpP l ∧ (∀ y ∈ l, 0 ≤ y ∧ y < (k : Int)) ∧ l.length ≤ 60) → rightL2 k (us.map V.raw) ss = true := by
  intro us
  induction us with
  | nil => intro ss _ _; rfl
  | cons u t ih =>
    intro ss h1 h2
    cases ss with
    | nil => rfl
    | cons l s =>
      have a := rightR_ok (h1 u (by simp))
      have b := h2 l (by simp)
      have c := rightL_ok k l 0 b.1 b.2.1
      have d := ih s (fun v hv => h1 v (by simp [hv])) (fun m hm => h2 m (by simp [hm]))
      show ((rightR u.raw.s u.raw.k u.raw.n u.raw.lo u.raw.hi u.raw.p && ((decide ((0 : Int) ≤ k) && decide ((k : Int) ≤ 4096)) && rightL k 0 l)) && rightL2 k (t.map V.raw) s) = true
      rw [a, c, d]
      simp
      omega
theorem rightS_ok {s : S} {us : List V} {n k : Nat} (h : SOk s us n k) (hk : k ≤ 4096) : rightS s.r s.vs s.ss s.vs.length k = true := by
  have hl : s.vs.length = us.length := by rw [h.vs, List.length_map]
  cases hr : s.r with
  | false =>
    have := h.nr hr
    subst this
    have h2 := h.len
    simp at hl h2
    simp [rightS, hl, h2]
  | true =>
    have e := rightL2_ok k hk us s.ss h.ok h.up
    rw [← h.vs] at e
    simp only [rightS, e]
    simp [h.len, hl]
theorem SOk.inner {s : S} {us : List V} {n k : Nat} (h : SOk s us n k) : ∀ (m : Nat) (l : List Int), s.ss[m]? = some l → l.length ≤ 100000 := fun m l hm => by
  have := (h.up l (List.mem_of_getElem? hm)).2.2
  omega
set_option maxRecDepth 100000 in
set_option maxHeartbeats 8000000 in
theorem stateRight_walk (a b : Option Addr) (c d : Nat) (r : Bool) (vs : List R) (ss : List (List Int)) (regs sites : Int) (w : World) (hv : RV w a vs) (hs : RR w b ss) (hvi : ∀ (m : Nat) (x : R), vs[m]? = some x → i64 x.n ∧ i64 x.lo ∧ i64 x.hi) :
    Calls Try.prog 4 #[.agg #[.bool r, .slice a vs.length c, .slice b ss.length d], .int .i64 regs, .int .i64 sites] w fun e w' => e = .returned (.bool true) ∧ Below w.heap.size w w' := by
  have HVw := hide hv
  have HRw := hide hs
  have cF : ∀ w', Below w.heap.size w w' → Calls Try.prog 10 #[.agg #[.bool r, .slice a vs.length c, .slice b ss.length d]] w' fun e w'' => ∃ v, e = .returned v ∧ Below w'.heap.size w' w'' ∧ ∃ s, Rn w'' w'.heap.size v s ∧ ∃ us, SOk s us 6 70 := fun w' h => fix_any a b c d r vs ss w' (hv.keep h) (hs.keep h) hvi
  clear hv hs hvi
  by_cases h40 : vs.length ≤ 40
  · have i40 : ¬ (vs.length : Int) > 40 := by omega
    by_cases g40 : ss.length ≤ 40
    · have j40 : ¬ (ss.length : Int) > 40 := by omega
      have hl1 : vs.length ≤ 100000 := by omega
      have hl2 : ss.length ≤ 100000 := by omega
      go_enter Try.func4, Try.ntmps4
      go_upto_region 3 with fail
      go_name_world W hW
      obtain ⟨q0, h0⟩ : ∃ z9, z9 = w.heap.size := ⟨_, rfl⟩
      rw [← h0]
      have H1 : Hid (Bs W q0 r (.slice a vs.length c) (.slice b ss.length d) ∧ Below w.heap.size w W) := by
        unfold Hid
        obtain ⟨B0, -, u⟩ := box1 w _ _ _ _ W hW
        rw [h0]
        exact ⟨B0, u⟩
      clear hW h0 i40 j40
      have e2 := H1.out.1.c2
      go_wp2_with fail
      go_loop [7] (fun sk => ∃ (k : Nat), sk = .int .i64 k ∧ k ≤ ss.length ∧ Hid (∀ (m : Nat) (l : List Int), m < k → ss[m]? = some l → l.length ≤ 100)) (fun sk => ss.length - (intOf sk).toNat)
      case atStart => exact ⟨0, rfl, Nat.zero_le _, fun m l hm => by omega⟩
      case round =>
        obtain ⟨k, rfl, hk, h4⟩ := hrel
        by_cases hks : k < ss.length
        · have hks2 : (k : Int) < ss.length := by omega
          obtain ⟨b2, o2, l, ai, ci, hX2, rfl, hc1, -, -, -⟩ := HRw.out.at hks
          have g2 := (H1.out.2.cell (p := ⟨b2, o2 + k, none⟩) (World.block_lt_of_cell? w _ hc1)).trans hc1
          by_cases h100 : l.length ≤ 100
          · have i100 : ¬ (l.length : Int) > 100 := by omega
            have H5 : Hid (∀ (m : Nat) (l : List Int), m < k + 1 → ss[m]? = some l → l.length ≤ 100) := hide (fun m l' hm hml => by
              by_cases e : m = k
              · subst e; rw [hX2] at hml; obtain rfl := Option.some.inj hml; exact h100
              · exact h4.out m l' (by omega) hml)
            clear hX2 hc1 h4
            go_wp2_with fail
            exact ⟨⟨k + 1, by simp, by omega, H5.out⟩, by simp [intOf]; omega⟩
          · have i100 : (l.length : Int) > 100 := by omega
            clear cF
            go_wp2_with (go_at_call 12; refine (told_any _).mono ?_; rintro e wB ⟨rfl, hB⟩; replace hB := hide hB)
            go_ret
            exact ⟨by simp, H1.out.2.trans (hB.out.mono H1.out.2.size)⟩
        · have hke : k = ss.length := by omega
          subst hke
          have HL3 : Hid (∀ (m : Nat) (l : List Int), ss[m]? = some l → l.length ≤ 100000) := hide (fun m l hml => by
            have hm : m < ss.length := by rcases Nat.lt_or_ge m ss.length with t | t; exact t; rw [List.getElem?_eq_none t] at hml; cases hml
            have := h4.out m l hm hml; omega)
          have e0 := H1.out.1.c0
          have e1 := H1.out.1.c1
          clear h4
          go_upto_region 9 with (go_at_call 10; refine (cF _ H1.out.2).mono ?_; rintro e wB ⟨v, rfl, hB, sf, hR, us, hO⟩; replace hB := hide hB; have hR2 := hide hR.rs; obtain ⟨a8, c8, b8, d8, hv5, k1, k2, -⟩ := hR.rs; subst hv5; have HVb := hide k1; have HRb := hide k2; have HO := hide hO; clear hR hO k1 k2 cF e0 e1 e2)
          go_name_world W2 hW2
          obtain ⟨q1, h1⟩ : ∃ z9, z9 = wB.heap.size := ⟨_, rfl⟩
          rw [← h1]
          obtain ⟨B1, -, uB⟩ := box1 wB _ _ _ _ W2 hW2
          rw [← h1] at B1
          have uA := hB.out.trans (uB.mono hB.out.size)
          have BW := hide (H1.out.2.trans (uA.mono H1.out.2.size))
          have B0 := H1.out.1.keep uA
          have HV := hide (HVw.out.keep BW.out)
          have HR := hide (HRw.out.keep BW.out)
          have HV8 := hide (HVb.out.keep uB)
          have HR8 := hide (HRb.out.keep uB)
          have HL8 := hide HO.out.inner
          have hl8 : sf.vs.length ≤ 100000 := by have := HO.out.le; rw [HO.out.vs, List.length_map]; omega
          have hl9 : sf.ss.length ≤ 100000 := by have := HO.out.le; rw [HO.out.len]; omega
          have C8 : Hid (∀ w' a b c d, RV w' a sf.vs → RR w' b sf.ss → Calls Try.prog 23 #[.agg #[.bool sf.r, .slice a sf.vs.length c, .slice b sf.ss.length d], .int .i64 sf.vs.length, .int .i64 70] w' fun e w'' => e = .returned (.bool true) ∧ Below w'.heap.size w' w'') := hide (fun w' a b c d k1 k2 => by
            have t := right_S a b c d sf.r sf.vs sf.ss sf.vs.length 70 w' k1 k2 hl8 HO.out.inner
            have e := rightS_ok HO.out (by omega)
            rw [show ((70 : Nat) : Int) = 70 from rfl] at e
            rw [e] at t
            exact t)
          have HS : Hid (∀ w', Below W2.heap.size W2 w' → (w'.cell? ⟨q0, 0, none⟩ = some (.bool r) ∧ w'.cell? ⟨q0, 1, none⟩ = some (.slice a vs.length c) ∧ w'.cell? ⟨q0, 2, none⟩ = some (.slice b ss.length d) ∧ w'.cell? ⟨q1, 0, none⟩ = some (.bool sf.r) ∧ w'.cell? ⟨q1, 1, none⟩ = some (.slice a8 sf.vs.length c8) ∧ w'.cell? ⟨q1, 2, none⟩ = some (.slice b8 sf.ss.length d8))) := fun w' h => by
            have t0 := B0.keep h
            have t1 := B1.keep h
            exact ⟨t0.c0, t0.c1, t0.c2, t1.c0, t1.c1, t1.c2⟩
          clear hW2 h1 B1 uB uA B0 H1 HVw HRw hB hR2 HVb HRb HO
          refine wp_region_held_drew (S := fun w' => w'.cell? ⟨q0, 0, none⟩ = some (.bool r) ∧ w'.cell? ⟨q0, 1, none⟩ = some (.slice a vs.length c) ∧ w'.cell? ⟨q0, 2, none⟩ = some (.slice b ss.length d) ∧ w'.cell? ⟨q1, 0, none⟩ = some (.bool sf.r) ∧ w'.cell? ⟨q1, 1, none⟩ = some (.slice a8 sf.vs.length c8) ∧ w'.cell? ⟨q1, 2, none⟩ = some (.slice b8 sf.ss.length d8)) (by kernel_rfl) (HS.out _ (Below.refl _ _).drew) (fun hH0 => ?_)
          obtain ⟨w0, hw0⟩ : ∃ w0, w0 = W2.drew := ⟨_, rfl⟩
          (try rw [← hw0] at hH0)
          rw [← hw0]
          have b0 : Hid (Below W2.heap.size W2 w0) := hw0 ▸ hide (Below.refl _ _).drew
          clear hw0
          refine wpAnyH_ready (rs := [0]) (by kernel_rfl) (by simp) ?_
          refine AllReadyH.cons (o := ({ dst := some 37, op := Op.call { callee := Callee.value (Operand.func 12), args := #[], argTypes := #[] }, type := 4, pos := "law.go:68", after := #[], guard := none } : Oper)) rfl (fun K hK => ?_) AllReadyH.nil
          · go_simp
            go_at_call 12
            refine (told_any _).mono ?_
            rintro e w1 ⟨rfl, hb1⟩
            have b1 := hide (b0.out.trans (hb1.mono b0.out.size))
            refine hK.out _ _ (HS.out _ b1.out) (fun hH1 => ?_)
            clear hK K hb1
            refine wpAnyH_take (i := 1) (oi := ({ dst := some 38, op := Op.move (Operand.tmp 37), type := 4, pos := "law.go:68", after := #[{ on := 0, ground := Ground.data }, { on := 0, ground := Ground.chain }], guard := none } : Oper)) (v := ?_) rfl (by kernel_rfl) (by kernel_rfl) (by kernel_rfl) (fun _ _ _ h => h) (Or.inl ⟨by rfl, ?_⟩) (by assumption) ?_
            rotate_left
            · (intro wz hSw; (try dsimp only at hSw); go_simp; try with_reducible rfl)
            simp only [Act.put, List.setIfInBounds_toArray, List.set_cons_zero, List.set_cons_succ]
            refine wpAnyH_take (i := 2) (oi := ({ dst := some 39, op := Op.load 25 (Operand.tmp 3), type := 25, pos := "law.go:68", after := #[{ on := 1, ground := Ground.guard }], guard := some (1, true) } : Oper)) (v := ?_) rfl (by kernel_rfl) (by kernel_rfl) (by kernel_rfl) (fun _ _ _ h => h) (Or.inl ⟨by rfl, ?_⟩) (by assumption) ?_
            rotate_left
            · (intro wz hSw; (try dsimp only at hSw); go_simp; try with_reducible rfl)
            simp only [Act.put, List.setIfInBounds_toArray, List.set_cons_zero, List.set_cons_succ]
            refine wpAnyH_take (i := 4) (oi := ({ dst := some 41, op := Op.move (Operand.tmp 1), type := 3, pos := "law.go:68", after := #[{ on := 1, ground := Ground.guard }], guard := some (1, true) } : Oper)) (v := ?_) rfl (by kernel_rfl) (by kernel_rfl) (by kernel_rfl) (fun _ _ _ h => h) (Or.inl ⟨by rfl, ?_⟩) (by assumption) ?_
            rotate_left
            · (intro wz hSw; (try dsimp only at hSw); go_simp; try with_reducible rfl)
            simp only [Act.put, List.setIfInBounds_toArray, List.set_cons_zero, List.set_cons_succ]
            refine wpAnyH_take (i := 5) (oi := ({ dst := some 42, op := Op.move (Operand.tmp 2), type := 3, pos := "law.go:68", after := #[{ on := 1, ground := Ground.guard }], guard := some (1, true) } : Oper)) (v := ?_) rfl (by kernel_rfl) (by kernel_rfl) (by kernel_rfl) (fun _ _ _ h => h) (Or.inl ⟨by rfl, ?_⟩) (by assumption) ?_
            rotate_left
            · (intro wz hSw; (try dsimp only at hSw); go_simp; try with_reducible rfl)
            simp only [Act.put, List.setIfInBounds_toArray, List.set_cons_zero, List.set_cons_succ]
            refine wpAnyH_take (i := 7) (oi := ({ dst := some 44, op := Op.load 25 (Operand.tmp 3), type := 25, pos := "law.go:68", after := #[{ on := 1, ground := Ground.guard }], guard := some (1, true) } : Oper)) (v := ?_) rfl (by kernel_rfl) (by kernel_rfl) (by kernel_rfl) (fun _ _ _ h => h) (Or.inl ⟨by rfl, ?_⟩) (by assumption) ?_
            rotate_left
            · (intro wz hSw; (try dsimp only at hSw); go_simp; try with_reducible rfl)
            simp only [Act.put, List.setIfInBounds_toArray, List.set_cons_zero, List.set_cons_succ]
            refine wpAnyH_take (i := 8) (oi := ({ dst := some 45, op := Op.move (Operand.tmp 1), type := 3, pos := "law.go:68", after := #[{ on := 1, ground := Ground.guard }], guard := some (1, true) } : Oper)) (v := ?_) rfl (by kernel_rfl) (by kernel_rfl) (by kernel_rfl) (fun _ _ _ h => h) (Or.inl ⟨by rfl, ?_⟩) (by assumption) ?_
            rotate_left
            · (intro wz hSw; (try dsimp only at hSw); go_simp; try with_reducible rfl)
            simp only [Act.put, List.setIfInBounds_toArray, List.set_cons_zero, List.set_cons_succ]
            refine wpAnyH_take (i := 9) (oi := ({ dst := some 46, op := Op.move (Operand.tmp 2), type := 3, pos := "law.go:68", after := #[{ on := 1, ground := Ground.guard }], guard := some (1, true) } : Oper)) (v := ?_) rfl (by kernel_rfl) (by kernel_rfl) (by kernel_rfl) (fun _ _ _ h => h) (Or.inl ⟨by rfl, ?_⟩) (by assumption) ?_
            rotate_left
            · (intro wz hSw; (try dsimp only at hSw); go_simp; try with_reducible rfl)
            simp only [Act.put, List.setIfInBounds_toArray, List.set_cons_zero, List.set_cons_succ]
            refine wpAnyH_ready (rs := [3]) (by kernel_rfl) (by simp) ?_
            refine AllReadyH.cons (o := ({ dst := some 40, op := Op.call { callee := Callee.value (Operand.func 11), args := #[Operand.tmp 39], argTypes := #[25] }, type := 29, pos := "law.go:68", after := #[{ on := 2, ground := Ground.data }, { on := 1, ground := Ground.chain }, { on := 1, ground := Ground.guard }], guard := some (1, true) } : Oper)) rfl (fun K hK => ?_) AllReadyH.nil
            · go_simp
              go_at_call 11
              refine (to_S a b c d r vs ss _ (HV.out.keep b1.out) (HR.out.keep b1.out) hl1 hl2 HL3.out).mono ?_
              rintro e w2 ⟨v, rfl, hR2, hb2⟩
              obtain ⟨x1, x2, x3, x4, rfl, k1, k2, -, -, -, -⟩ := hR2.rs
              dsimp only at k1 k2 ⊢
              have K2 := hide k1
              have MK2 := hide k2
              clear k1 k2 hR2
              have b2 := hide (b1.out.trans (hb2.mono b1.out.size))
              refine hK.out _ _ (HS.out _ b2.out) (fun hH2 => ?_)
              clear hK K hb2
              refine wpAnyH_ready (rs := [6]) (by kernel_rfl) (by simp) ?_
              refine AllReadyH.cons (o := ({ dst := some 43, op := Op.call { callee := Callee.value (Operand.func 23), args := #[Operand.tmp 40, Operand.tmp 41, Operand.tmp 42], argTypes := #[29, 3, 3] }, type := 4, pos := "law.go:68", after := #[{ on := 3, ground := Ground.data }, { on := 4, ground := Ground.data }, { on := 5, ground := Ground.data }, { on := 3, ground := Ground.chain }, { on := 1, ground := Ground.guard }], guard := some (1, true) } : Oper)) rfl (fun K hK => ?_) AllReadyH.nil
              · go_simp
                go_at_call 23
                refine (right_S x1 x3 x2 x4 r vs ss regs sites _ K2.out MK2.out hl1 HL3.out).mono ?_
                rintro e w3 ⟨rfl, hb3⟩
                have b3 := hide (b2.out.trans (hb3.mono b2.out.size))
                refine hK.out _ _ (HS.out _ b3.out) (fun hH3 => ?_)
                clear hK K hb3
                refine wpAnyH_ready (rs := [10]) (by kernel_rfl) (by simp) ?_
                refine AllReadyH.cons (o := ({ dst := some 47, op := Op.call { callee := Callee.value (Operand.func 24), args := #[Operand.tmp 44, Operand.tmp 45, Operand.tmp 46], argTypes := #[25, 3, 3] }, type := 4, pos := "law.go:68", after := #[{ on := 7, ground := Ground.data }, { on := 8, ground := Ground.data }, { on := 9, ground := Ground.data }, { on := 6, ground := Ground.chain }, { on := 1, ground := Ground.guard }], guard := some (1, true) } : Oper)) rfl (fun K hK => ?_) AllReadyH.nil
                · go_simp
                  go_at_call 24
                  refine (rightr_S a b c d r vs ss regs sites _ (HV.out.keep b3.out) (HR.out.keep b3.out) hl1 HL3.out).mono ?_
                  rintro e w4 ⟨rfl, hb4⟩
                  have b4 := hide (b3.out.trans (hb4.mono b3.out.size))
                  refine hK.out _ _ (HS.out _ b4.out) (fun hH4 => ?_)
                  clear hK K hb4
                  refine wpAnyH_take (i := 11) (oi := ({ dst := some 48, op := Op.binOp BinOp.eql 4 (Operand.tmp 43) (Operand.tmp 47) 4, type := 4, pos := "law.go:68", after := #[{ on := 6, ground := Ground.data }, { on := 10, ground := Ground.data }, { on := 1, ground := Ground.guard }], guard := some (1, true) } : Oper)) (v := ?_) rfl (by kernel_rfl) (by kernel_rfl) (by kernel_rfl) (fun _ _ _ h => h) (Or.inl ⟨by rfl, ?_⟩) (by assumption) ?_
                  rotate_left
                  · (intro wz hSw; (try dsimp only at hSw); go_simp; try with_reducible rfl)
                  simp only [Act.put, List.setIfInBounds_toArray, List.set_cons_zero, List.set_cons_succ]
                  refine wpAnyH_take (i := 12) (oi := ({ dst := some 49, op := Op.pick (Operand.tmp 38) (Operand.tmp 48) (Operand.const (Value.bool false)), type := 4, pos := "law.go:68", after := #[{ on := 1, ground := Ground.data }, { on := 11, ground := Ground.data }], guard := none } : Oper)) (v := ?_) rfl (by kernel_rfl) (by kernel_rfl) (by kernel_rfl) (fun _ _ _ h => h) (Or.inl ⟨by rfl, ?_⟩) (by assumption) ?_
                  rotate_left
                  · (intro wz hSw; (try dsimp only at hSw); go_simp; try with_reducible rfl)
                  simp only [Act.put, List.setIfInBounds_toArray, List.set_cons_zero, List.set_cons_succ]
                  refine wpAnyH_take (i := 13) (oi := ({ dst := some 50, op := Op.move (Operand.tmp 49), type := 4, pos := "law.go:68", after := #[{ on := 12, ground := Ground.data }, { on := 10, ground := Ground.chain }], guard := none } : Oper)) (v := ?_) rfl (by kernel_rfl) (by kernel_rfl) (by kernel_rfl) (fun _ _ _ h => h) (Or.inl ⟨by rfl, ?_⟩) (by assumption) ?_
                  rotate_left
                  · (intro wz hSw; (try dsimp only at hSw); go_simp; try with_reducible rfl)
                  simp only [Act.put, List.setIfInBounds_toArray, List.set_cons_zero, List.set_cons_succ]
                  refine wpAnyH_take (i := 14) (oi := ({ dst := some 51, op := Op.load 25 (Operand.tmp 8), type := 25, pos := "law.go:68", after := #[{ on := 13, ground := Ground.guard }], guard := some (13, true) } : Oper)) (v := ?_) rfl (by kernel_rfl) (by kernel_rfl) (by kernel_rfl) (fun _ _ _ h => h) (Or.inl ⟨by rfl, ?_⟩) (by assumption) ?_
                  rotate_left
                  · (intro wz hSw; (try dsimp only at hSw); go_simp; try with_reducible rfl)
                  simp only [Act.put, List.setIfInBounds_toArray, List.set_cons_zero, List.set_cons_succ]
                  refine wpAnyH_take (i := 16) (oi := ({ dst := some 53, op := Op.fieldAddr 25 (Operand.tmp 8) 1, type := 0, pos := "law.go:68", after := #[{ on := 13, ground := Ground.guard }], guard := some (13, true) } : Oper)) (v := ?_) rfl (by kernel_rfl) (by kernel_rfl) (by kernel_rfl) (fun _ _ _ h => h) (Or.inl ⟨by rfl, ?_⟩) (by assumption) ?_
                  rotate_left
                  · (intro wz hSw; (try dsimp only at hSw); go_simp; try with_reducible rfl)
                  simp only [Act.put, List.setIfInBounds_toArray, List.set_cons_zero, List.set_cons_succ]
                  refine wpAnyH_take (i := 17) (oi := ({ dst := some 54, op := Op.load 22 (Operand.tmp 53), type := 22, pos := "law.go:68", after := #[{ on := 16, ground := Ground.data }, { on := 13, ground := Ground.guard }], guard := some (13, true) } : Oper)) (v := ?_) rfl (by kernel_rfl) (by kernel_rfl) (by kernel_rfl) (fun _ _ _ h => h) (Or.inl ⟨by rfl, ?_⟩) (by assumption) ?_
                  rotate_left
                  · (intro wz hSw; (try dsimp only at hSw); go_simp; try with_reducible rfl)
                  simp only [Act.put, List.setIfInBounds_toArray, List.set_cons_zero, List.set_cons_succ]
                  refine wpAnyH_take (i := 18) (oi := ({ dst := some 55, op := Op.call { callee := Callee.builtin Builtin.len, args := #[Operand.tmp 54], argTypes := #[22] }, type := 3, pos := "law.go:68", after := #[{ on := 17, ground := Ground.data }, { on := 13, ground := Ground.guard }], guard := some (13, true) } : Oper)) (v := ?_) rfl (by kernel_rfl) (by kernel_rfl) (by kernel_rfl) (fun _ _ _ h => h) (Or.inl ⟨by rfl, ?_⟩) (by assumption) ?_
                  rotate_left
                  · (intro wz hSw; (try dsimp only at hSw); go_simp; try with_reducible rfl)
                  simp only [Act.put, List.setIfInBounds_toArray, List.set_cons_zero, List.set_cons_succ]
                  refine wpAnyH_ready (rs := [15]) (by kernel_rfl) (by simp) ?_
                  refine AllReadyH.cons (o := ({ dst := some 52, op := Op.call { callee := Callee.value (Operand.func 11), args := #[Operand.tmp 51], argTypes := #[25] }, type := 29, pos := "law.go:68", after := #[{ on := 14, ground := Ground.data }, { on := 13, ground := Ground.chain }, { on := 13, ground := Ground.guard }], guard := some (13, true) } : Oper)) rfl (fun K hK => ?_) AllReadyH.nil
                  · go_simp
                    go_at_call 11
                    refine (to_S a8 b8 c8 d8 sf.r sf.vs sf.ss _ (HV8.out.keep b4.out) (HR8.out.keep b4.out) hl8 hl9 HL8.out).mono ?_
                    rintro e w5 ⟨v, rfl, hR5, hb5⟩
                    obtain ⟨y1, y2, y3, y4, rfl, k1, k2, -, -, -, -⟩ := hR5.rs
                    dsimp only at k1 k2 ⊢
                    have J5 := hide k1
                    have MJ5 := hide k2
                    clear k1 k2 hR5
                    have b5 := hide (b4.out.trans (hb5.mono b4.out.size))
                    refine hK.out _ _ (HS.out _ b5.out) (fun hH5 => ?_)
                    clear hK K hb5
                    refine wpAnyH_ready (rs := [19]) (by kernel_rfl) (by simp) ?_
                    refine AllReadyH.cons (o := ({ dst := some 56, op := Op.call { callee := Callee.value (Operand.func 23), args := #[Operand.tmp 52, Operand.tmp 55, Operand.const (Value.int IntKind.i64 70)], argTypes := #[29, 3, 3] }, type := 4, pos := "law.go:68", after := #[{ on := 15, ground := Ground.data }, { on := 18, ground := Ground.data }, { on := 15, ground := Ground.chain }, { on := 13, ground := Ground.guard }], guard := some (13, true) } : Oper)) rfl (fun K hK => ?_) AllReadyH.nil
                    · go_simp
                      go_at_call 23
                      refine (C8.out _ y1 y3 y2 y4 J5.out MJ5.out).mono ?_
                      rintro e w6 ⟨rfl, hb6⟩
                      have b6 := hide (b5.out.trans (hb6.mono b5.out.size))
                      refine hK.out _ _ (HS.out _ b6.out) (fun hH6 => ?_)
                      clear hK K hb6
                      refine wpAnyH_take (i := 20) (oi := ({ dst := some 57, op := Op.pick (Operand.tmp 50) (Operand.tmp 56) (Operand.const (Value.bool false)), type := 4, pos := "law.go:68", after := #[{ on := 13, ground := Ground.data }, { on := 19, ground := Ground.data }], guard := none } : Oper)) (v := ?_) rfl (by kernel_rfl) (by kernel_rfl) (by kernel_rfl) (fun _ _ _ h => h) (Or.inl ⟨by rfl, ?_⟩) (by assumption) ?_
                      rotate_left
                      · (intro wz hSw; (try dsimp only at hSw); go_simp; try with_reducible rfl)
                      simp only [Act.put, List.setIfInBounds_toArray, List.set_cons_zero, List.set_cons_succ]
                      refine wpAnyH_take (i := 21) (oi := ({ dst := some 6, op := Op.assign (Operand.tmp 57), type := 4, pos := "law.go:68", after := #[{ on := 20, ground := Ground.data }, { on := 19, ground := Ground.chain }, { on := 0, ground := Ground.phase }, { on := 1, ground := Ground.phase }, { on := 2, ground := Ground.phase }, { on := 3, ground := Ground.phase }, { on := 4, ground := Ground.phase }, { on := 5, ground := Ground.phase }, { on := 6, ground := Ground.phase }, { on := 7, ground := Ground.phase }, { on := 8, ground := Ground.phase }, { on := 9, ground := Ground.phase }, { on := 10, ground := Ground.phase }, { on := 11, ground := Ground.phase }, { on := 12, ground := Ground.phase }, { on := 13, ground := Ground.phase }, { on := 14, ground := Ground.phase }, { on := 15, ground := Ground.phase }, { on := 16, ground := Ground.phase }, { on := 17, ground := Ground.phase }, { on := 18, ground := Ground.phase }, { on := 19, ground := Ground.phase }, { on := 20, ground := Ground.phase }], guard := none } : Oper)) (v := ?_) rfl (by kernel_rfl) (by kernel_rfl) (by kernel_rfl) (fun _ _ _ h => h) (Or.inl ⟨by rfl, ?_⟩) (by assumption) ?_
                      rotate_left
                      · (intro wz hSw; (try dsimp only at hSw); go_simp; try with_reducible rfl)
                      simp only [Act.put, List.setIfInBounds_toArray, List.set_cons_zero, List.set_cons_succ]
                      refine wpAnyH_done (by kernel_rfl) ?_ _
                      go_wp2
                      go_ret
                      exact ⟨by simp, BW.out.trans (b6.out.mono BW.out.size)⟩
    · have j40 : (ss.length : Int) > 40 := by omega
      clear cF
      go_enter Try.func4, Try.ntmps4
      go_wp2_with (go_at_call 12; refine (told_any _).mono ?_; rintro e wB ⟨rfl, hB⟩; replace hB := hide hB)
      go_ret
      exact ⟨by simp, ((Below.refl _ _).alloc (Nat.le_refl _) _).trans (hB.out.mono (by simp))⟩
  · have i40 : (vs.length : Int) > 40 := by omega
    clear cF
    go_enter Try.func4, Try.ntmps4
    go_wp2_with (go_at_call 12; refine (told_any _).mono ?_; rintro e wB ⟨rfl, hB⟩; replace hB := hide hB)
    go_ret
    exact ⟨by simp, ((Below.refl _ _).alloc (Nat.le_refl _) _).trans (hB.out.mono (by simp))⟩
end Go.Proofs.Ytmhicllhjiglkaa
namespace Go.Proofs.Ytmhicllhjiglkaa
open Go.RowKit
/-- a State that is made Right, as the document's -/
def Pre (w : World) (v : Value) : Prop := ∃ s us, Rs w v s ∧ SOk s us 6 70
theorem Pre.keep {w w' : World} {v : Value} (h : Pre w v) (hb : Below w.heap.size w w') : Pre w' v := by
  obtain ⟨s, us, h1, h2⟩ := h
  exact ⟨s, us, h1.keep hb, h2⟩
/-- a slice of numbers that lies in none of these blocks -/
def Rlp (w : World) (L : List Nat) (e : Value) (l : List Int) : Prop := ∃ a c, e = .slice a l.length c ∧ (∀ (i : Nat) (y : Int), l[i]? = some y → ∃ b o, a = some ⟨b, o, none⟩ ∧ b ∉ L ∧ w.cell? ⟨b, o + i, none⟩ = some (.int .i64 y)) ∧ l.length ≤ c ∧ (a = none → c = 0)
/-- a State as a value, whose rows lie in none of these blocks -/
def Rp (w : World) (L : List Nat) (v : Value) (s : S) : Prop := ∃ a c b d, v = .agg #[.bool s.r, .slice a s.vs.length c, .slice b s.ss.length d] ∧
  (∀ (m : Nat) (x : R), s.vs[m]? = some x → ∃ b o, a = some ⟨b, o, none⟩ ∧ b ∉ L ∧ B6 w b (o + m * 6) x) ∧
  (∀ (m : Nat) (l : List Int), s.ss[m]? = some l → ∃ b' o e, b = some ⟨b', o, none⟩ ∧ b' ∉ L ∧ w.cell? ⟨b', o + m, none⟩ = some e ∧ Rlp w L e l) ∧
  s.vs.length ≤ c ∧ s.ss.length ≤ d ∧ (a = none → c = 0) ∧ (b = none → d = 0)
theorem Rp.rs {w : World} {L : List Nat} {v : Value} {s : S} (h : Rp w L v s) : Rs w v s := by
  obtain ⟨a, c, b, d, h1, h2, h3, h4⟩ := h
  refine ⟨a, c, b, d, h1, fun m x hx => ?_, fun m l hl => ?_, h4⟩
  · obtain ⟨b1, o1, e1, _, e2⟩ := h2 m x hx
    exact ⟨b1, o1, e1, e2⟩
  · obtain ⟨b1, o1, e, e1, _, e2, ai, ci, rfl, e3, e4⟩ := h3 m l hl
    refine ⟨b1, o1, _, e1, e2, ai, ci, rfl, fun i y hy => ?_, e4⟩
    obtain ⟨b2, o2, rfl, _, hc⟩ := e3 i y hy
    exact ⟨b2, o2, rfl, hc⟩
theorem Rn.rp {w : World} {N : Nat} {v : Value} {s : S} (h : Rn w N v s) {L : List Nat} (hL : ∀ k ∈ L, k < N) : Rp w L v s := by
  obtain ⟨a, c, b, d, h1, h2, h3, h4⟩ := h
  refine ⟨a, c, b, d, h1, fun m x hx => ?_, fun m l hl => ?_, h4⟩
  · obtain ⟨b1, o1, e1, e0, e2⟩ := h2 m x hx
    exact ⟨b1, o1, e1, fun t => by have := hL _ t; omega, e2⟩
  · obtain ⟨b1, o1, e, e1, e0, e2, ⟨ai, ci, rfl, e3, e5⟩, e4⟩ := h3 m l hl
    refine ⟨b1, o1, _, e1, fun t => by have := hL _ t; omega, e2, ai, ci, rfl, fun i y hy => ?_, e5⟩
    obtain ⟨b2, o2, rfl, hc⟩ := e3 i y hy
    exact ⟨b2, o2, rfl, fun t => by have := hL _ t; have := e4 b2 rfl; omega, hc⟩
/-- it stays where all blocks that stood stay, but these -/
theorem Rp.of {w w' : World} {L L' : List Nat} {v : Value} {s : S} (h : Rp w L v s) (hL : ∀ k ∈ L', k ∈ L ∨ w.heap.size ≤ k) (hb : ∀ k, k ∉ L → k < w.heap.size → w'.heap[k]? = w.heap[k]?) : Rp w' L' v s := by
  obtain ⟨a, c, b, d, h1, h2, h3, h4⟩ := h
  have nin : ∀ k, k ∉ L → k < w.heap.size → k ∉ L' := fun k h1 h2 h3 => by rcases hL k h3 with t | t; exact h1 t; omega
  refine ⟨a, c, b, d, h1, fun m x hx => ?_, fun m l hl => ?_, h4⟩
  · obtain ⟨b1, o1, e1, e0, e2⟩ := h2 m x hx
    exact ⟨b1, o1, e1, nin _ e0 e2.lt, e2.of (hb b1 e0 e2.lt)⟩
  · obtain ⟨b1, o1, e, e1, e0, e2, ai, ci, rfl, k1, k2⟩ := h3 m l hl
    have l1 := World.block_lt_of_cell? w _ e2
    refine ⟨b1, o1, _, e1, nin _ e0 l1, (World.cell?_of_block (a := ⟨b1, o1 + m, none⟩) (hb b1 e0 l1)).trans e2, ai, ci, rfl, fun i y hy => ?_, k2⟩
    obtain ⟨b2, o2, rfl, e5, hc⟩ := k1 i y hy
    have l2 := World.block_lt_of_cell? w _ hc
    exact ⟨b2, o2, rfl, nin _ e5 l2, (World.cell?_of_block (a := ⟨b2, o2 + i, none⟩) (hb b2 e5 l2)).trans hc⟩
/-- a State of the document's form, Right, told by x, whose rows lie in none of these blocks -/
def Don (w : World) (L : List Nat) (v : Value) (x : VS) : Prop := VOk 60 x ∧ Rp w L v x.raw
theorem Don.keep {w w' : World} {L : List Nat} {v : Value} {x : VS} (h : Don w L v x) (hb : Below w.heap.size w w') : Don w' L v x := ⟨h.1, h.2.of (fun _ t => .inl t) (fun k _ hk => hb.block k hk)⟩
theorem Don.more {w w' : World} {L L' : List Nat} {v : Value} {x : VS} (h : Don w L v x) (hb : Below w.heap.size w w') (hL : ∀ k ∈ L', k ∈ L ∨ w.heap.size ≤ k) : Don w' L' v x := ⟨h.1, h.2.of hL (fun k _ hk => hb.block k hk)⟩
theorem Don.put {w : World} {L : List Nat} {v : Value} {x : VS} (h : Don w L v x) {q : Nat} (hq : q ∈ L) (r : Bool) (va sa : Value) : Don (st3 w q r va sa) L v x := ⟨h.1, h.2.of (fun _ t => .inl t) (fun k hk _ => st3_block w q r va sa k (fun e => hk (e ▸ hq)))⟩
theorem Bs.far3 {w : World} {q p : Nat} {r : Bool} {va sa : Value} (h : Bs w q r va sa) (hp : q ≠ p) (r1 : Bool) (va1 sa1 : Value) : Bs (st3 w p r1 va1 sa1) q r va sa := h.of (st3_block w p r1 va1 sa1 q hp)
/-- the call that makes the program's State of the document's -/
theorem to_D {w : World} {v : Value} (h : Pre w v) {L : List Nat} (hL : ∀ k ∈ L, k < w.heap.size) : Calls Try.prog 11 #[v] w fun e w' => ∃ v', e = .returned v' ∧ Below w.heap.size w w' ∧ ∃ x, Don w' L v' x := by
  obtain ⟨s, us, ⟨a, c, b, d, rfl, h1, h2, -⟩, h3⟩ := h
  obtain ⟨e1, e2⟩ := h3.vok (by omega)
  have l1 : s.vs.length ≤ 100000 := by have := h3.le; rw [h3.vs, List.length_map]; omega
  have l2 : s.ss.length ≤ 100000 := by have := h3.le; have := h3.len; omega
  refine (to_S a b c d s.r s.vs s.ss w h1 h2 l1 l2 h3.inner).mono ?_
  rintro e w' ⟨v', rfl, hR, hB⟩
  exact ⟨v', rfl, hB, _, e2, e1 ▸ hR.rp hL⟩
end Go.Proofs.Ytmhicllhjiglkaa
