import Derived.Test.YtpegiljajlljkaaRm
import Derived.Deep.QuietTactic
namespace Go.Proofs.Ytpegiljajlljkaa
open Go.RowKit
set_option maxRecDepth 100000 in
set_option maxHeartbeats 32000000 in
theorem srises_walk (op al ah bl bh cl ch : Int) (w : World) (h1 : i64 al) (h2 : i64 ah) (h3 : i64 bl) (h4 : i64 bh) (h5 : i64 cl) (h6 : i64 ch) : Calls Try.prog 6 #[.int .i64 op, .agg #[.int .i64 al, .int .i64 ah, .int .i64 bl, .int .i64 bh], .agg #[.int .i64 cl, .int .i64 ch]] w fun e w' => e = .returned (.bool true) ∧ Below w.heap.size w w' := by
  have cA := fun w => fix_pair al ah w
  have cB := fun w => fix_pair bl bh w
  have cC := fun w => fix_pair cl ch w
  have sP := fix_sp al ah h1 h2
  have sQ := fix_sp bl bh h3 h4
  have sR := fix_sp cl ch h5 h6
  clear h1 h2 h3 h4 h5 h6
  generalize (min al ah, max al ah) = P at *
  generalize (min bl bh, max bl bh) = Q at *
  generalize (min cl ch, max cl ch) = R at *
  have sJ := join_sp P R sP sR
  have sK := join_sp Q R sQ sR
  have cJ := fun w => join_pair P R w
  have cK := fun w => join_pair Q R w
  have wJ := join_wi P R
  have wK := join_wi Q R
  generalize joinP P R = J at *
  generalize joinP Q R = K at *
  have cX := fun w => two_any op P Q w sP sQ
  have cY := fun w => two_any op J Q w sJ sQ
  have cZ := fun w => two_any op P K w sP sK
  have r1 := two_rises op P Q J Q sP sQ sJ sQ wJ (wi_refl Q)
  have r2 := two_rises op P Q P K sP sQ sP sK (wi_refl P) wK
  have cO := fun w => one_any op P w sP
  have cV := fun w => one_any op J w sJ
  have r3 := one_rises op P J sP sJ wJ
  have r4 := fun yes => branch_rises yes P J sP wJ
  generalize twoP op P Q = TX at *
  generalize twoP op J Q = TY at *
  generalize twoP op P K = TZ at *
  generalize oneP op P = OX at *
  generalize oneP op J = OY at *
  have HR : Hid ((TX.2 = true → TY.2 = true ∧ Wi TX.1 TY.1) ∧ (TX.2 = true → TZ.2 = true ∧ Wi TX.1 TZ.1) ∧ (OX.2 = true → OY.2 = true ∧ Wi OX.1 OY.1) ∧ ∀ yes, (branchP P yes).2 = true → (branchP J yes).2 = true ∧ Wi (branchP P yes).1 (branchP J yes).1) := ⟨r1, r2, r3, r4⟩
  clear r1 r2 r3 r4 wJ wK sP sQ sR sJ sK
  go_enter Try.func6, Try.ntmps6
  go_upto_region 1 with fail
  go_name_world W hW
  have hS : rzS w.heap.size al ah bl bh cl ch w W := by
    rw [← hW]
    exact ⟨by simp [go_sem], by simp [go_sem], by simp [go_sem], by simp [go_sem], by simp [go_sem], by simp [go_sem], by simp, (by repeat (first | exact Below.refl _ _ | (refine Below.drew ?_) | (refine below_drewN ?_ _) | (refine Below.setCell ?_ (by first | omega | (simp; done) | (simp; omega)) _) | (refine Below.alloc ?_ (by first | omega | (simp; done) | (simp; omega)) _) | (refine Below.trans ?_ (Below.mono (by assumption) (by first | omega | (simp; done) | (simp; omega))))))⟩
  clear hW
  obtain ⟨N, hN⟩ : ∃ N, N = w.heap.size := ⟨_, rfl⟩
  rw [← hN] at hS ⊢
  have HN : Hid (N = w.heap.size) := hN
  clear hN
  refine rz_region _ (fun _ _ d _ _ h => by cases d <;> exact h) op al ah bl bh cl ch P Q R N w cA cB cC ?_ W hS
  clear cA cB cC hS W
  intro v k7 k8 k9 K7 K8 K9 _ _ _ hb
  dsimp only [rzAct]
  have H1 : Hid (Bx v k7 P.1 P.2 ∧ Bx v k8 Q.1 Q.2 ∧ Bx v k9 R.1 R.2 ∧ Below N w v ∧ N ≤ v.heap.size) := ⟨K7.1, K8.1, K9.1, hb, by have := hb.size; have := HN.out; omega⟩
  clear K7 K8 K9 hb
  have a0 := H1.out.1.1
  have a1 := H1.out.1.2
  have b0 := H1.out.2.1.1
  have b1 := H1.out.2.1.2
  go_upto_region 3 with (go_at_call 29; refine (cX _).mono ?_; rintro e wA ⟨rfl, hA⟩)
  go_name_world W2 hW2
  have H2 : Hid (Bx W2 k7 P.1 P.2 ∧ Bx W2 k9 R.1 R.2 ∧ Bx W2 k8 Q.1 Q.2 ∧ Bz W2 wA.heap.size TX.1.1 TX.1.2 ∧ Below N w W2 ∧ N ≤ W2.heap.size ∧ (k7 ≠ wA.heap.size ∧ k9 ≠ wA.heap.size ∧ N ≤ wA.heap.size)) := by
    rw [← hW2]
    have u := H1.out.2.2.2.1.trans (hA.mono H1.out.2.2.2.2)
    have n : N ≤ wA.heap.size := Nat.le_trans H1.out.2.2.2.2 hA.size
    have p7 := H1.out.1.keep hA
    have p8 := H1.out.2.1.keep hA
    have p9 := H1.out.2.2.1.keep hA
    exact ⟨p7.keep ((Below.refl _ _).alloc (Nat.le_refl _) _), p9.keep ((Below.refl _ _).alloc (Nat.le_refl _) _), p8.keep ((Below.refl _ _).alloc (Nat.le_refl _) _), Bz.new _ _ _ _, u.alloc n _, by simp; omega, Nat.ne_of_lt p7.lt, Nat.ne_of_lt p9.lt, n⟩
  clear hW2 hA H1 a0 a1 b0 b1 cX
  generalize wA.heap.size = t10 at *
  have HCL : Hid (∀ a b : World, (a.cell? ⟨k7, 0, none⟩ = some (.int .i64 P.1) ∧ a.cell? ⟨k7, 1, none⟩ = some (.int .i64 P.2) ∧ k7 < a.heap.size ∧ a.cell? ⟨k9, 0, none⟩ = some (.int .i64 R.1) ∧ a.cell? ⟨k9, 1, none⟩ = some (.int .i64 R.2) ∧ k9 < a.heap.size ∧ a.cell? ⟨k8, 0, none⟩ = some (.int .i64 Q.1) ∧ a.cell? ⟨k8, 1, none⟩ = some (.int .i64 Q.2) ∧ k8 < a.heap.size ∧ Hid (Below N w a ∧ N ≤ a.heap.size ∧ Bz a t10 TX.1.1 TX.1.2)) → Below a.heap.size a b → (b.cell? ⟨k7, 0, none⟩ = some (.int .i64 P.1) ∧ b.cell? ⟨k7, 1, none⟩ = some (.int .i64 P.2) ∧ k7 < b.heap.size ∧ b.cell? ⟨k9, 0, none⟩ = some (.int .i64 R.1) ∧ b.cell? ⟨k9, 1, none⟩ = some (.int .i64 R.2) ∧ k9 < b.heap.size ∧ b.cell? ⟨k8, 0, none⟩ = some (.int .i64 Q.1) ∧ b.cell? ⟨k8, 1, none⟩ = some (.int .i64 Q.2) ∧ k8 < b.heap.size ∧ Hid (Below N w b ∧ N ≤ b.heap.size ∧ Bz b t10 TX.1.1 TX.1.2))) := fun a b h hb => by
    have x0 := Bx.keep ⟨h.1, h.2.1⟩ hb
    have x1 := Bx.keep ⟨h.2.2.2.1, h.2.2.2.2.1⟩ hb
    have x2 := Bx.keep ⟨h.2.2.2.2.2.2.1, h.2.2.2.2.2.2.2.1⟩ hb
    exact ⟨x0.1, x0.2, x0.lt, x1.1, x1.2, x1.lt, x2.1, x2.2, x2.lt, h.2.2.2.2.2.2.2.2.2.out.1.trans (hb.mono h.2.2.2.2.2.2.2.2.2.out.2.1), Nat.le_trans h.2.2.2.2.2.2.2.2.2.out.2.1 hb.size, (h.2.2.2.2.2.2.2.2.2.out.2.2).keep hb⟩
  have HST : Hid (∀ (a : World) (q : Nat) (v u : Value), (k7 ≠ q ∧ k9 ≠ q ∧ k8 ≠ q ∧ t10 ≠ q ∧ N ≤ q) → (a.cell? ⟨k7, 0, none⟩ = some (.int .i64 P.1) ∧ a.cell? ⟨k7, 1, none⟩ = some (.int .i64 P.2) ∧ k7 < a.heap.size ∧ a.cell? ⟨k9, 0, none⟩ = some (.int .i64 R.1) ∧ a.cell? ⟨k9, 1, none⟩ = some (.int .i64 R.2) ∧ k9 < a.heap.size ∧ a.cell? ⟨k8, 0, none⟩ = some (.int .i64 Q.1) ∧ a.cell? ⟨k8, 1, none⟩ = some (.int .i64 Q.2) ∧ k8 < a.heap.size ∧ Hid (Below N w a ∧ N ≤ a.heap.size ∧ Bz a t10 TX.1.1 TX.1.2)) → (((a.setCell ⟨q, 0, none⟩ v).setCell ⟨q, 1, none⟩ u).cell? ⟨k7, 0, none⟩ = some (.int .i64 P.1) ∧ ((a.setCell ⟨q, 0, none⟩ v).setCell ⟨q, 1, none⟩ u).cell? ⟨k7, 1, none⟩ = some (.int .i64 P.2) ∧ k7 < ((a.setCell ⟨q, 0, none⟩ v).setCell ⟨q, 1, none⟩ u).heap.size ∧ ((a.setCell ⟨q, 0, none⟩ v).setCell ⟨q, 1, none⟩ u).cell? ⟨k9, 0, none⟩ = some (.int .i64 R.1) ∧ ((a.setCell ⟨q, 0, none⟩ v).setCell ⟨q, 1, none⟩ u).cell? ⟨k9, 1, none⟩ = some (.int .i64 R.2) ∧ k9 < ((a.setCell ⟨q, 0, none⟩ v).setCell ⟨q, 1, none⟩ u).heap.size ∧ ((a.setCell ⟨q, 0, none⟩ v).setCell ⟨q, 1, none⟩ u).cell? ⟨k8, 0, none⟩ = some (.int .i64 Q.1) ∧ ((a.setCell ⟨q, 0, none⟩ v).setCell ⟨q, 1, none⟩ u).cell? ⟨k8, 1, none⟩ = some (.int .i64 Q.2) ∧ k8 < ((a.setCell ⟨q, 0, none⟩ v).setCell ⟨q, 1, none⟩ u).heap.size ∧ Hid (Below N w ((a.setCell ⟨q, 0, none⟩ v).setCell ⟨q, 1, none⟩ u) ∧ N ≤ ((a.setCell ⟨q, 0, none⟩ v).setCell ⟨q, 1, none⟩ u).heap.size ∧ Bz ((a.setCell ⟨q, 0, none⟩ v).setCell ⟨q, 1, none⟩ u) t10 TX.1.1 TX.1.2))) := fun a q v u hq h => by
    have x0 := Bx.set' (q := q) hq.1 ⟨h.1, h.2.1⟩ v u
    have x1 := Bx.set' (q := q) hq.2.1 ⟨h.2.2.2.1, h.2.2.2.2.1⟩ v u
    have x2 := Bx.set' (q := q) hq.2.2.1 ⟨h.2.2.2.2.2.2.1, h.2.2.2.2.2.2.2.1⟩ v u
    exact ⟨x0.1, x0.2, x0.lt, x1.1, x1.2, x1.lt, x2.1, x2.2, x2.lt, (h.2.2.2.2.2.2.2.2.2.out.1.setCell (p := ⟨q, 0, none⟩) hq.2.2.2.2 v).setCell (p := ⟨q, 1, none⟩) hq.2.2.2.2 u, by simpa using h.2.2.2.2.2.2.2.2.2.out.2.1, (h.2.2.2.2.2.2.2.2.2.out.2.2).set' hq.2.2.2.1 v u⟩
  have hS0 : W2.cell? ⟨k7, 0, none⟩ = some (.int .i64 P.1) ∧ W2.cell? ⟨k7, 1, none⟩ = some (.int .i64 P.2) ∧ k7 < W2.heap.size ∧ W2.cell? ⟨k9, 0, none⟩ = some (.int .i64 R.1) ∧ W2.cell? ⟨k9, 1, none⟩ = some (.int .i64 R.2) ∧ k9 < W2.heap.size ∧ W2.cell? ⟨k8, 0, none⟩ = some (.int .i64 Q.1) ∧ W2.cell? ⟨k8, 1, none⟩ = some (.int .i64 Q.2) ∧ k8 < W2.heap.size ∧ Hid (Below N w W2 ∧ N ≤ W2.heap.size ∧ Bz W2 t10 TX.1.1 TX.1.2) := ⟨H2.out.1.1, H2.out.1.2, H2.out.1.lt, H2.out.2.1.1, H2.out.2.1.2, H2.out.2.1.lt, H2.out.2.2.1.1, H2.out.2.2.1.2, H2.out.2.2.1.lt, H2.out.2.2.2.2.1, H2.out.2.2.2.2.2.1, H2.out.2.2.2.1⟩
  go_cut [12, 13] (fun v1 v2 wy => ∃ t, v1 = .pointer (some ⟨t, 0, none⟩) ∧ v2 = .bool TY.2 ∧ Hid ((wy.cell? ⟨k7, 0, none⟩ = some (.int .i64 P.1) ∧ wy.cell? ⟨k7, 1, none⟩ = some (.int .i64 P.2) ∧ k7 < wy.heap.size ∧ wy.cell? ⟨k9, 0, none⟩ = some (.int .i64 R.1) ∧ wy.cell? ⟨k9, 1, none⟩ = some (.int .i64 R.2) ∧ k9 < wy.heap.size ∧ wy.cell? ⟨k8, 0, none⟩ = some (.int .i64 Q.1) ∧ wy.cell? ⟨k8, 1, none⟩ = some (.int .i64 Q.2) ∧ k8 < wy.heap.size ∧ Hid (Below N w wy ∧ N ≤ wy.heap.size ∧ Bz wy t10 TX.1.1 TX.1.2)) ∧ Bz wy t TY.1.1 TY.1.2 ∧ (k7 ≠ t ∧ k9 ≠ t ∧ k8 ≠ t ∧ t10 ≠ t ∧ N ≤ t)))
  case first =>
    refine wp_region_held_drew (S := fun w' => w'.cell? ⟨k7, 0, none⟩ = some (.int .i64 P.1) ∧ w'.cell? ⟨k7, 1, none⟩ = some (.int .i64 P.2) ∧ k7 < w'.heap.size ∧ w'.cell? ⟨k9, 0, none⟩ = some (.int .i64 R.1) ∧ w'.cell? ⟨k9, 1, none⟩ = some (.int .i64 R.2) ∧ k9 < w'.heap.size ∧ w'.cell? ⟨k8, 0, none⟩ = some (.int .i64 Q.1) ∧ w'.cell? ⟨k8, 1, none⟩ = some (.int .i64 Q.2) ∧ k8 < w'.heap.size ∧ Hid (Below N w w' ∧ N ≤ w'.heap.size ∧ Bz w' t10 TX.1.1 TX.1.2)) (by kernel_rfl) (HCL.out _ _ hS0 ((Below.refl _ _).drew)) (fun hH0 => ?_)
    obtain ⟨w0, hw0⟩ : ∃ w0, w0 = W2.drew := ⟨_, rfl⟩
    rw [← hw0] at hH0 ⊢
    clear hw0
    refine wpAnyH_take (i := 0) (oi := ({ dst := some 36, op := Op.move (Operand.tmp 0), type := 3, pos := "law.go:80", after := #[], guard := none } : Oper)) (v := ?_) rfl (by kernel_rfl) (by kernel_rfl) (by kernel_rfl) (fun _ _ _ h => h) (Or.inl ⟨by rfl, ?_⟩) (by assumption) ?_
    rotate_left
    · (intro wz hSw; (try dsimp only at hSw); go_simp; try with_reducible rfl)
    simp only [Act.put, List.setIfInBounds_toArray, List.set_cons_zero, List.set_cons_succ]
    refine wpAnyH_take (i := 1) (oi := ({ dst := some 37, op := Op.load 25 (Operand.tmp 7), type := 25, pos := "law.go:80", after := #[], guard := none } : Oper)) (v := ?_) rfl (by kernel_rfl) (by kernel_rfl) (by kernel_rfl) (fun _ _ _ h => h) (Or.inl ⟨by rfl, ?_⟩) (by assumption) ?_
    rotate_left
    · (intro wz hSw; (try dsimp only at hSw); go_simp; try with_reducible rfl)
    simp only [Act.put, List.setIfInBounds_toArray, List.set_cons_zero, List.set_cons_succ]
    refine wpAnyH_take (i := 2) (oi := ({ dst := some 38, op := Op.load 25 (Operand.tmp 9), type := 25, pos := "law.go:80", after := #[], guard := none } : Oper)) (v := ?_) rfl (by kernel_rfl) (by kernel_rfl) (by kernel_rfl) (fun _ _ _ h => h) (Or.inl ⟨by rfl, ?_⟩) (by assumption) ?_
    rotate_left
    · (intro wz hSw; (try dsimp only at hSw); go_simp; try with_reducible rfl)
    simp only [Act.put, List.setIfInBounds_toArray, List.set_cons_zero, List.set_cons_succ]
    refine wpAnyH_take (i := 4) (oi := ({ dst := some 40, op := Op.load 25 (Operand.tmp 8), type := 25, pos := "law.go:80", after := #[], guard := none } : Oper)) (v := ?_) rfl (by kernel_rfl) (by kernel_rfl) (by kernel_rfl) (fun _ _ _ h => h) (Or.inl ⟨by rfl, ?_⟩) (by assumption) ?_
    rotate_left
    · (intro wz hSw; (try dsimp only at hSw); go_simp; try with_reducible rfl)
    simp only [Act.put, List.setIfInBounds_toArray, List.set_cons_zero, List.set_cons_succ]
    refine wpAnyH_ready (rs := [3, 9]) (by kernel_rfl) (by simp) ?_
    refine AllReadyH.cons (o := ({ dst := some 39, op := Op.call { callee := Callee.value (Operand.func 21), args := #[Operand.tmp 37, Operand.tmp 38], argTypes := #[25, 25] }, type := 25, pos := "law.go:80", after := #[{ on := 1, ground := Ground.data }, { on := 2, ground := Ground.data }], guard := none } : Oper)) rfl (fun K hK => ?_) (AllReadyH.cons (o := ({ dst := some 12, op := Op.alloc 25, type := 0, pos := "law.go:80", after := #[], guard := none } : Oper)) rfl (fun K hK => ?_) AllReadyH.nil)
    · go_simp
      go_at_call 21
      refine (cJ _).mono ?_
      rintro e w1 ⟨rfl, hb1⟩
      refine hK.out _ _ (HCL.out _ _ hH0 hb1) (fun hH1 => ?_)
      clear hK K
      refine wpAnyH_ready (rs := [5, 9]) (by kernel_rfl) (by simp) ?_
      refine AllReadyH.cons (o := ({ dst := some 41, op := Op.call { callee := Callee.value (Operand.func 29), args := #[Operand.tmp 36, Operand.tmp 39, Operand.tmp 40], argTypes := #[3, 25, 25] }, type := 28, pos := "law.go:80", after := #[{ on := 0, ground := Ground.data }, { on := 3, ground := Ground.data }, { on := 4, ground := Ground.data }, { on := 3, ground := Ground.chain }], guard := none } : Oper)) rfl (fun K hK => ?_) (AllReadyH.cons (o := ({ dst := some 12, op := Op.alloc 25, type := 0, pos := "law.go:80", after := #[], guard := none } : Oper)) rfl (fun K hK => ?_) AllReadyH.nil)
      · go_simp
        go_at_call 29
        refine (cY _).mono ?_
        rintro e w2 ⟨rfl, hb2⟩
        refine hK.out _ _ (HCL.out _ _ hH1 hb2) (fun hH2 => ?_)
        clear hK K
        refine wpAnyH_take (i := 6) (oi := ({ dst := some 35, op := Op.move (Operand.tmp 41), type := 28, pos := "law.go:80", after := #[{ on := 5, ground := Ground.data }], guard := none } : Oper)) (v := ?_) rfl (by kernel_rfl) (by kernel_rfl) (by kernel_rfl) (fun _ _ _ h => h) (Or.inl ⟨by rfl, ?_⟩) (by assumption) ?_
        rotate_left
        · (intro wz hSw; (try dsimp only at hSw); go_simp; try with_reducible rfl)
        simp only [Act.put, List.setIfInBounds_toArray, List.set_cons_zero, List.set_cons_succ]
        refine wpAnyH_take (i := 7) (oi := ({ dst := some 42, op := Op.extract (Operand.tmp 35) 0, type := 25, pos := "law.go:80", after := #[{ on := 6, ground := Ground.data }], guard := none } : Oper)) (v := ?_) rfl (by kernel_rfl) (by kernel_rfl) (by kernel_rfl) (fun _ _ _ h => h) (Or.inl ⟨by rfl, ?_⟩) (by assumption) ?_
        rotate_left
        · (intro wz hSw; (try dsimp only at hSw); go_simp; try with_reducible rfl)
        simp only [Act.put, List.setIfInBounds_toArray, List.set_cons_zero, List.set_cons_succ]
        refine wpAnyH_take (i := 8) (oi := ({ dst := some 43, op := Op.extract (Operand.tmp 35) 1, type := 4, pos := "law.go:80", after := #[{ on := 6, ground := Ground.data }, { on := 10, ground := Ground.gcOnly Departure.lateStores }], guard := none } : Oper)) (v := ?_) rfl (by kernel_rfl) (by kernel_rfl) (by kernel_rfl) (fun _ _ _ h => h) (Or.inl ⟨by rfl, ?_⟩) (by assumption) ?_
        rotate_left
        · (intro wz hSw; (try dsimp only at hSw); go_simp; try with_reducible rfl)
        simp only [Act.put, List.setIfInBounds_toArray, List.set_cons_zero, List.set_cons_succ]
        refine wpAnyH_ready (rs := [9]) (by kernel_rfl) (by simp) ?_
        refine AllReadyH.cons (o := ({ dst := some 12, op := Op.alloc 25, type := 0, pos := "law.go:80", after := #[], guard := none } : Oper)) rfl (fun K hK => ?_) AllReadyH.nil
        · go_simp
          have hb3 : Below w2.heap.size w2 (w2.alloc (.cells #[.int .i64 0, .int .i64 0] 25)) := (Below.refl _ _).alloc (Nat.le_refl _) _
          have M3 := Bz.new w2 0 0 25
          have neM : k7 ≠ w2.heap.size ∧ k9 ≠ w2.heap.size ∧ k8 ≠ w2.heap.size ∧ t10 ≠ w2.heap.size ∧ N ≤ w2.heap.size := ⟨Nat.ne_of_lt hH2.2.2.1, Nat.ne_of_lt hH2.2.2.2.2.2.1, Nat.ne_of_lt hH2.2.2.2.2.2.2.2.2.1, Nat.ne_of_lt (hH2.2.2.2.2.2.2.2.2.2.out.2.2).1.lt, hH2.2.2.2.2.2.2.2.2.2.out.2.1⟩
          refine hK.out _ _ (HCL.out _ _ hH2 hb3) (fun hH3 => ?_)
          clear hK K
          obtain ⟨w3, hw3⟩ : ∃ w3, w3 = (w2.alloc (.cells #[.int .i64 0, .int .i64 0] 25)) := ⟨_, rfl⟩
          rw [← hw3] at hH3 M3 ⊢
          clear hw3
          generalize w2.heap.size = kM at *
          refine wpAnyH_ready (rs := [10]) (by kernel_rfl) (by simp) ?_
          refine AllReadyH.cons (o := ({ dst := none, op := Op.store 25 (Operand.tmp 12) (Operand.tmp 42), type := 0, pos := "law.go:80", after := #[{ on := 9, ground := Ground.data }, { on := 7, ground := Ground.data }, { on := 5, ground := Ground.chain }, { on := 0, ground := Ground.phase }, { on := 1, ground := Ground.phase }, { on := 2, ground := Ground.phase }, { on := 3, ground := Ground.phase }, { on := 4, ground := Ground.phase }, { on := 5, ground := Ground.phase }, { on := 6, ground := Ground.phase }, { on := 7, ground := Ground.phase }, { on := 8, ground := Ground.textOnly Departure.lateStores }, { on := 9, ground := Ground.phase }], guard := none } : Oper)) rfl (fun K hK => ?_) AllReadyH.nil
          · have c0 := M3.1.1
            have c1 := M3.1.2
            have c2 := M3.2.1
            have c3 := M3.2.2
            go_simp
            have M4 := M3.wrote (x' := TY.1.1) (y' := TY.1.2)
            refine hK.out _ _ (HST.out _ kM _ _ neM hH3) (fun hH4 => ?_)
            clear hK K c0 c1 c2 c3
            obtain ⟨w4, hw4⟩ : ∃ w4, w4 = ((w3.setCell ⟨kM, 0, none⟩ (.int .i64 TY.1.1)).setCell ⟨kM, 1, none⟩ (.int .i64 TY.1.2)) := ⟨_, rfl⟩
            rw [← hw4] at hH4 M4 ⊢
            clear hw4
            refine wpAnyH_take (i := 11) (oi := ({ dst := some 13, op := Op.assign (Operand.tmp 43), type := 4, pos := "law.go:80", after := #[{ on := 8, ground := Ground.data }, { on := 10, ground := Ground.chain }, { on := 0, ground := Ground.phase }, { on := 1, ground := Ground.phase }, { on := 2, ground := Ground.phase }, { on := 3, ground := Ground.phase }, { on := 4, ground := Ground.phase }, { on := 5, ground := Ground.phase }, { on := 6, ground := Ground.phase }, { on := 7, ground := Ground.phase }, { on := 8, ground := Ground.phase }, { on := 9, ground := Ground.phase }, { on := 10, ground := Ground.phase }], guard := none } : Oper)) (v := ?_) rfl (by kernel_rfl) (by kernel_rfl) (by kernel_rfl) (fun _ _ _ h => h) (Or.inl ⟨by rfl, ?_⟩) (by assumption) ?_
            rotate_left
            · (intro wz hSw; (try dsimp only at hSw); go_simp; try with_reducible rfl)
            simp only [Act.put, List.setIfInBounds_toArray, List.set_cons_zero, List.set_cons_succ]
            refine wpAnyH_done (by kernel_rfl) ?_ _
            go_wp2
            go_meet
            case rel => exact ⟨_, rfl, rfl, hH4, M4, neM⟩
      · go_simp
        have hb2 : Below w1.heap.size w1 (w1.alloc (.cells #[.int .i64 0, .int .i64 0] 25)) := (Below.refl _ _).alloc (Nat.le_refl _) _
        have M2 := Bz.new w1 0 0 25
        have neM : k7 ≠ w1.heap.size ∧ k9 ≠ w1.heap.size ∧ k8 ≠ w1.heap.size ∧ t10 ≠ w1.heap.size ∧ N ≤ w1.heap.size := ⟨Nat.ne_of_lt hH1.2.2.1, Nat.ne_of_lt hH1.2.2.2.2.2.1, Nat.ne_of_lt hH1.2.2.2.2.2.2.2.2.1, Nat.ne_of_lt (hH1.2.2.2.2.2.2.2.2.2.out.2.2).1.lt, hH1.2.2.2.2.2.2.2.2.2.out.2.1⟩
        refine hK.out _ _ (HCL.out _ _ hH1 hb2) (fun hH2 => ?_)
        clear hK K
        obtain ⟨w2, hw2⟩ : ∃ w2, w2 = (w1.alloc (.cells #[.int .i64 0, .int .i64 0] 25)) := ⟨_, rfl⟩
        rw [← hw2] at hH2 M2 ⊢
        clear hw2
        generalize w1.heap.size = kM at *
        refine wpAnyH_ready (rs := [5]) (by kernel_rfl) (by simp) ?_
        refine AllReadyH.cons (o := ({ dst := some 41, op := Op.call { callee := Callee.value (Operand.func 29), args := #[Operand.tmp 36, Operand.tmp 39, Operand.tmp 40], argTypes := #[3, 25, 25] }, type := 28, pos := "law.go:80", after := #[{ on := 0, ground := Ground.data }, { on := 3, ground := Ground.data }, { on := 4, ground := Ground.data }, { on := 3, ground := Ground.chain }], guard := none } : Oper)) rfl (fun K hK => ?_) AllReadyH.nil
        · go_simp
          go_at_call 29
          refine (cY _).mono ?_
          rintro e w3 ⟨rfl, hb3⟩
          have M3 := M2.keep hb3
          refine hK.out _ _ (HCL.out _ _ hH2 hb3) (fun hH3 => ?_)
          clear hK K
          refine wpAnyH_take (i := 6) (oi := ({ dst := some 35, op := Op.move (Operand.tmp 41), type := 28, pos := "law.go:80", after := #[{ on := 5, ground := Ground.data }], guard := none } : Oper)) (v := ?_) rfl (by kernel_rfl) (by kernel_rfl) (by kernel_rfl) (fun _ _ _ h => h) (Or.inl ⟨by rfl, ?_⟩) (by assumption) ?_
          rotate_left
          · (intro wz hSw; (try dsimp only at hSw); go_simp; try with_reducible rfl)
          simp only [Act.put, List.setIfInBounds_toArray, List.set_cons_zero, List.set_cons_succ]
          refine wpAnyH_take (i := 7) (oi := ({ dst := some 42, op := Op.extract (Operand.tmp 35) 0, type := 25, pos := "law.go:80", after := #[{ on := 6, ground := Ground.data }], guard := none } : Oper)) (v := ?_) rfl (by kernel_rfl) (by kernel_rfl) (by kernel_rfl) (fun _ _ _ h => h) (Or.inl ⟨by rfl, ?_⟩) (by assumption) ?_
          rotate_left
          · (intro wz hSw; (try dsimp only at hSw); go_simp; try with_reducible rfl)
          simp only [Act.put, List.setIfInBounds_toArray, List.set_cons_zero, List.set_cons_succ]
          refine wpAnyH_take (i := 8) (oi := ({ dst := some 43, op := Op.extract (Operand.tmp 35) 1, type := 4, pos := "law.go:80", after := #[{ on := 6, ground := Ground.data }, { on := 10, ground := Ground.gcOnly Departure.lateStores }], guard := none } : Oper)) (v := ?_) rfl (by kernel_rfl) (by kernel_rfl) (by kernel_rfl) (fun _ _ _ h => h) (Or.inl ⟨by rfl, ?_⟩) (by assumption) ?_
          rotate_left
          · (intro wz hSw; (try dsimp only at hSw); go_simp; try with_reducible rfl)
          simp only [Act.put, List.setIfInBounds_toArray, List.set_cons_zero, List.set_cons_succ]
          refine wpAnyH_ready (rs := [10]) (by kernel_rfl) (by simp) ?_
          refine AllReadyH.cons (o := ({ dst := none, op := Op.store 25 (Operand.tmp 12) (Operand.tmp 42), type := 0, pos := "law.go:80", after := #[{ on := 9, ground := Ground.data }, { on := 7, ground := Ground.data }, { on := 5, ground := Ground.chain }, { on := 0, ground := Ground.phase }, { on := 1, ground := Ground.phase }, { on := 2, ground := Ground.phase }, { on := 3, ground := Ground.phase }, { on := 4, ground := Ground.phase }, { on := 5, ground := Ground.phase }, { on := 6, ground := Ground.phase }, { on := 7, ground := Ground.phase }, { on := 8, ground := Ground.textOnly Departure.lateStores }, { on := 9, ground := Ground.phase }], guard := none } : Oper)) rfl (fun K hK => ?_) AllReadyH.nil
          · have c0 := M3.1.1
            have c1 := M3.1.2
            have c2 := M3.2.1
            have c3 := M3.2.2
            go_simp
            have M4 := M3.wrote (x' := TY.1.1) (y' := TY.1.2)
            refine hK.out _ _ (HST.out _ kM _ _ neM hH3) (fun hH4 => ?_)
            clear hK K c0 c1 c2 c3
            obtain ⟨w4, hw4⟩ : ∃ w4, w4 = ((w3.setCell ⟨kM, 0, none⟩ (.int .i64 TY.1.1)).setCell ⟨kM, 1, none⟩ (.int .i64 TY.1.2)) := ⟨_, rfl⟩
            rw [← hw4] at hH4 M4 ⊢
            clear hw4
            refine wpAnyH_take (i := 11) (oi := ({ dst := some 13, op := Op.assign (Operand.tmp 43), type := 4, pos := "law.go:80", after := #[{ on := 8, ground := Ground.data }, { on := 10, ground := Ground.chain }, { on := 0, ground := Ground.phase }, { on := 1, ground := Ground.phase }, { on := 2, ground := Ground.phase }, { on := 3, ground := Ground.phase }, { on := 4, ground := Ground.phase }, { on := 5, ground := Ground.phase }, { on := 6, ground := Ground.phase }, { on := 7, ground := Ground.phase }, { on := 8, ground := Ground.phase }, { on := 9, ground := Ground.phase }, { on := 10, ground := Ground.phase }], guard := none } : Oper)) (v := ?_) rfl (by kernel_rfl) (by kernel_rfl) (by kernel_rfl) (fun _ _ _ h => h) (Or.inl ⟨by rfl, ?_⟩) (by assumption) ?_
            rotate_left
            · (intro wz hSw; (try dsimp only at hSw); go_simp; try with_reducible rfl)
            simp only [Act.put, List.setIfInBounds_toArray, List.set_cons_zero, List.set_cons_succ]
            refine wpAnyH_done (by kernel_rfl) ?_ _
            go_wp2
            go_meet
            case rel => exact ⟨_, rfl, rfl, hH4, M4, neM⟩
    · go_simp
      have hb1 : Below w0.heap.size w0 (w0.alloc (.cells #[.int .i64 0, .int .i64 0] 25)) := (Below.refl _ _).alloc (Nat.le_refl _) _
      have M1 := Bz.new w0 0 0 25
      have neM : k7 ≠ w0.heap.size ∧ k9 ≠ w0.heap.size ∧ k8 ≠ w0.heap.size ∧ t10 ≠ w0.heap.size ∧ N ≤ w0.heap.size := ⟨Nat.ne_of_lt hH0.2.2.1, Nat.ne_of_lt hH0.2.2.2.2.2.1, Nat.ne_of_lt hH0.2.2.2.2.2.2.2.2.1, Nat.ne_of_lt (hH0.2.2.2.2.2.2.2.2.2.out.2.2).1.lt, hH0.2.2.2.2.2.2.2.2.2.out.2.1⟩
      refine hK.out _ _ (HCL.out _ _ hH0 hb1) (fun hH1 => ?_)
      clear hK K
      obtain ⟨w1, hw1⟩ : ∃ w1, w1 = (w0.alloc (.cells #[.int .i64 0, .int .i64 0] 25)) := ⟨_, rfl⟩
      rw [← hw1] at hH1 M1 ⊢
      clear hw1
      generalize w0.heap.size = kM at *
      refine wpAnyH_ready (rs := [3]) (by kernel_rfl) (by simp) ?_
      refine AllReadyH.cons (o := ({ dst := some 39, op := Op.call { callee := Callee.value (Operand.func 21), args := #[Operand.tmp 37, Operand.tmp 38], argTypes := #[25, 25] }, type := 25, pos := "law.go:80", after := #[{ on := 1, ground := Ground.data }, { on := 2, ground := Ground.data }], guard := none } : Oper)) rfl (fun K hK => ?_) AllReadyH.nil
      · go_simp
        go_at_call 21
        refine (cJ _).mono ?_
        rintro e w2 ⟨rfl, hb2⟩
        have M2 := M1.keep hb2
        refine hK.out _ _ (HCL.out _ _ hH1 hb2) (fun hH2 => ?_)
        clear hK K
        refine wpAnyH_ready (rs := [5]) (by kernel_rfl) (by simp) ?_
        refine AllReadyH.cons (o := ({ dst := some 41, op := Op.call { callee := Callee.value (Operand.func 29), args := #[Operand.tmp 36, Operand.tmp 39, Operand.tmp 40], argTypes := #[3, 25, 25] }, type := 28, pos := "law.go:80", after := #[{ on := 0, ground := Ground.data }, { on := 3, ground := Ground.data }, { on := 4, ground := Ground.data }, { on := 3, ground := Ground.chain }], guard := none } : Oper)) rfl (fun K hK => ?_) AllReadyH.nil
        · go_simp
          go_at_call 29
          refine (cY _).mono ?_
          rintro e w3 ⟨rfl, hb3⟩
          have M3 := M2.keep hb3
          refine hK.out _ _ (HCL.out _ _ hH2 hb3) (fun hH3 => ?_)
          clear hK K
          refine wpAnyH_take (i := 6) (oi := ({ dst := some 35, op := Op.move (Operand.tmp 41), type := 28, pos := "law.go:80", after := #[{ on := 5, ground := Ground.data }], guard := none } : Oper)) (v := ?_) rfl (by kernel_rfl) (by kernel_rfl) (by kernel_rfl) (fun _ _ _ h => h) (Or.inl ⟨by rfl, ?_⟩) (by assumption) ?_
          rotate_left
          · (intro wz hSw; (try dsimp only at hSw); go_simp; try with_reducible rfl)
          simp only [Act.put, List.setIfInBounds_toArray, List.set_cons_zero, List.set_cons_succ]
          refine wpAnyH_take (i := 7) (oi := ({ dst := some 42, op := Op.extract (Operand.tmp 35) 0, type := 25, pos := "law.go:80", after := #[{ on := 6, ground := Ground.data }], guard := none } : Oper)) (v := ?_) rfl (by kernel_rfl) (by kernel_rfl) (by kernel_rfl) (fun _ _ _ h => h) (Or.inl ⟨by rfl, ?_⟩) (by assumption) ?_
          rotate_left
          · (intro wz hSw; (try dsimp only at hSw); go_simp; try with_reducible rfl)
          simp only [Act.put, List.setIfInBounds_toArray, List.set_cons_zero, List.set_cons_succ]
          refine wpAnyH_take (i := 8) (oi := ({ dst := some 43, op := Op.extract (Operand.tmp 35) 1, type := 4, pos := "law.go:80", after := #[{ on := 6, ground := Ground.data }, { on := 10, ground := Ground.gcOnly Departure.lateStores }], guard := none } : Oper)) (v := ?_) rfl (by kernel_rfl) (by kernel_rfl) (by kernel_rfl) (fun _ _ _ h => h) (Or.inl ⟨by rfl, ?_⟩) (by assumption) ?_
          rotate_left
          · (intro wz hSw; (try dsimp only at hSw); go_simp; try with_reducible rfl)
          simp only [Act.put, List.setIfInBounds_toArray, List.set_cons_zero, List.set_cons_succ]
          refine wpAnyH_ready (rs := [10]) (by kernel_rfl) (by simp) ?_
          refine AllReadyH.cons (o := ({ dst := none, op := Op.store 25 (Operand.tmp 12) (Operand.tmp 42), type := 0, pos := "law.go:80", after := #[{ on := 9, ground := Ground.data }, { on := 7, ground := Ground.data }, { on := 5, ground := Ground.chain }, { on := 0, ground := Ground.phase }, { on := 1, ground := Ground.phase }, { on := 2, ground := Ground.phase }, { on := 3, ground := Ground.phase }, { on := 4, ground := Ground.phase }, { on := 5, ground := Ground.phase }, { on := 6, ground := Ground.phase }, { on := 7, ground := Ground.phase }, { on := 8, ground := Ground.textOnly Departure.lateStores }, { on := 9, ground := Ground.phase }], guard := none } : Oper)) rfl (fun K hK => ?_) AllReadyH.nil
          · have c0 := M3.1.1
            have c1 := M3.1.2
            have c2 := M3.2.1
            have c3 := M3.2.2
            go_simp
            have M4 := M3.wrote (x' := TY.1.1) (y' := TY.1.2)
            refine hK.out _ _ (HST.out _ kM _ _ neM hH3) (fun hH4 => ?_)
            clear hK K c0 c1 c2 c3
            obtain ⟨w4, hw4⟩ : ∃ w4, w4 = ((w3.setCell ⟨kM, 0, none⟩ (.int .i64 TY.1.1)).setCell ⟨kM, 1, none⟩ (.int .i64 TY.1.2)) := ⟨_, rfl⟩
            rw [← hw4] at hH4 M4 ⊢
            clear hw4
            refine wpAnyH_take (i := 11) (oi := ({ dst := some 13, op := Op.assign (Operand.tmp 43), type := 4, pos := "law.go:80", after := #[{ on := 8, ground := Ground.data }, { on := 10, ground := Ground.chain }, { on := 0, ground := Ground.phase }, { on := 1, ground := Ground.phase }, { on := 2, ground := Ground.phase }, { on := 3, ground := Ground.phase }, { on := 4, ground := Ground.phase }, { on := 5, ground := Ground.phase }, { on := 6, ground := Ground.phase }, { on := 7, ground := Ground.phase }, { on := 8, ground := Ground.phase }, { on := 9, ground := Ground.phase }, { on := 10, ground := Ground.phase }], guard := none } : Oper)) (v := ?_) rfl (by kernel_rfl) (by kernel_rfl) (by kernel_rfl) (fun _ _ _ h => h) (Or.inl ⟨by rfl, ?_⟩) (by assumption) ?_
            rotate_left
            · (intro wz hSw; (try dsimp only at hSw); go_simp; try with_reducible rfl)
            simp only [Act.put, List.setIfInBounds_toArray, List.set_cons_zero, List.set_cons_succ]
            refine wpAnyH_done (by kernel_rfl) ?_ _
            go_wp2
            go_meet
            case rel => exact ⟨_, rfl, rfl, hH4, M4, neM⟩
  case rest =>
    obtain ⟨t12, rfl, rfl, HH⟩ := hcut
    have HD : Hid (k7 ≠ t10 ∧ k9 ≠ t10 ∧ N ≤ t10) := H2.out.2.2.2.2.2.2
    clear HCL HST hS0 H2 cY
    have HE : Hid (k7 ≠ t12 ∧ k9 ≠ t12 ∧ k8 ≠ t12 ∧ t10 ≠ t12 ∧ N ≤ t12) := HH.out.2.2
    go_upto_region 4 with fail
    have HCL : Hid (∀ a b : World, (a.cell? ⟨k7, 0, none⟩ = some (.int .i64 P.1) ∧ a.cell? ⟨k7, 1, none⟩ = some (.int .i64 P.2) ∧ k7 < a.heap.size ∧ a.cell? ⟨k9, 0, none⟩ = some (.int .i64 R.1) ∧ a.cell? ⟨k9, 1, none⟩ = some (.int .i64 R.2) ∧ k9 < a.heap.size ∧ a.cell? ⟨k8, 0, none⟩ = some (.int .i64 Q.1) ∧ a.cell? ⟨k8, 1, none⟩ = some (.int .i64 Q.2) ∧ k8 < a.heap.size ∧ Hid (Below N w a ∧ N ≤ a.heap.size ∧ Bz a t10 TX.1.1 TX.1.2 ∧ Bz a t12 TY.1.1 TY.1.2)) → Below a.heap.size a b → (b.cell? ⟨k7, 0, none⟩ = some (.int .i64 P.1) ∧ b.cell? ⟨k7, 1, none⟩ = some (.int .i64 P.2) ∧ k7 < b.heap.size ∧ b.cell? ⟨k9, 0, none⟩ = some (.int .i64 R.1) ∧ b.cell? ⟨k9, 1, none⟩ = some (.int .i64 R.2) ∧ k9 < b.heap.size ∧ b.cell? ⟨k8, 0, none⟩ = some (.int .i64 Q.1) ∧ b.cell? ⟨k8, 1, none⟩ = some (.int .i64 Q.2) ∧ k8 < b.heap.size ∧ Hid (Below N w b ∧ N ≤ b.heap.size ∧ Bz b t10 TX.1.1 TX.1.2 ∧ Bz b t12 TY.1.1 TY.1.2))) := fun a b h hb => by
      have x0 := Bx.keep ⟨h.1, h.2.1⟩ hb
      have x1 := Bx.keep ⟨h.2.2.2.1, h.2.2.2.2.1⟩ hb
      have x2 := Bx.keep ⟨h.2.2.2.2.2.2.1, h.2.2.2.2.2.2.2.1⟩ hb
      exact ⟨x0.1, x0.2, x0.lt, x1.1, x1.2, x1.lt, x2.1, x2.2, x2.lt, h.2.2.2.2.2.2.2.2.2.out.1.trans (hb.mono h.2.2.2.2.2.2.2.2.2.out.2.1), Nat.le_trans h.2.2.2.2.2.2.2.2.2.out.2.1 hb.size, (h.2.2.2.2.2.2.2.2.2.out.2.2.1).keep hb, (h.2.2.2.2.2.2.2.2.2.out.2.2.2).keep hb⟩
    have HST : Hid (∀ (a : World) (q : Nat) (v u : Value), (k7 ≠ q ∧ k9 ≠ q ∧ k8 ≠ q ∧ t10 ≠ q ∧ t12 ≠ q ∧ N ≤ q) → (a.cell? ⟨k7, 0, none⟩ = some (.int .i64 P.1) ∧ a.cell? ⟨k7, 1, none⟩ = some (.int .i64 P.2) ∧ k7 < a.heap.size ∧ a.cell? ⟨k9, 0, none⟩ = some (.int .i64 R.1) ∧ a.cell? ⟨k9, 1, none⟩ = some (.int .i64 R.2) ∧ k9 < a.heap.size ∧ a.cell? ⟨k8, 0, none⟩ = some (.int .i64 Q.1) ∧ a.cell? ⟨k8, 1, none⟩ = some (.int .i64 Q.2) ∧ k8 < a.heap.size ∧ Hid (Below N w a ∧ N ≤ a.heap.size ∧ Bz a t10 TX.1.1 TX.1.2 ∧ Bz a t12 TY.1.1 TY.1.2)) → (((a.setCell ⟨q, 0, none⟩ v).setCell ⟨q, 1, none⟩ u).cell? ⟨k7, 0, none⟩ = some (.int .i64 P.1) ∧ ((a.setCell ⟨q, 0, none⟩ v).setCell ⟨q, 1, none⟩ u).cell? ⟨k7, 1, none⟩ = some (.int .i64 P.2) ∧ k7 < ((a.setCell ⟨q, 0, none⟩ v).setCell ⟨q, 1, none⟩ u).heap.size ∧ ((a.setCell ⟨q, 0, none⟩ v).setCell ⟨q, 1, none⟩ u).cell? ⟨k9, 0, none⟩ = some (.int .i64 R.1) ∧ ((a.setCell ⟨q, 0, none⟩ v).setCell ⟨q, 1, none⟩ u).cell? ⟨k9, 1, none⟩ = some (.int .i64 R.2) ∧ k9 < ((a.setCell ⟨q, 0, none⟩ v).setCell ⟨q, 1, none⟩ u).heap.size ∧ ((a.setCell ⟨q, 0, none⟩ v).setCell ⟨q, 1, none⟩ u).cell? ⟨k8, 0, none⟩ = some (.int .i64 Q.1) ∧ ((a.setCell ⟨q, 0, none⟩ v).setCell ⟨q, 1, none⟩ u).cell? ⟨k8, 1, none⟩ = some (.int .i64 Q.2) ∧ k8 < ((a.setCell ⟨q, 0, none⟩ v).setCell ⟨q, 1, none⟩ u).heap.size ∧ Hid (Below N w ((a.setCell ⟨q, 0, none⟩ v).setCell ⟨q, 1, none⟩ u) ∧ N ≤ ((a.setCell ⟨q, 0, none⟩ v).setCell ⟨q, 1, none⟩ u).heap.size ∧ Bz ((a.setCell ⟨q, 0, none⟩ v).setCell ⟨q, 1, none⟩ u) t10 TX.1.1 TX.1.2 ∧ Bz ((a.setCell ⟨q, 0, none⟩ v).setCell ⟨q, 1, none⟩ u) t12 TY.1.1 TY.1.2))) := fun a q v u hq h => by
      have x0 := Bx.set' (q := q) hq.1 ⟨h.1, h.2.1⟩ v u
      have x1 := Bx.set' (q := q) hq.2.1 ⟨h.2.2.2.1, h.2.2.2.2.1⟩ v u
      have x2 := Bx.set' (q := q) hq.2.2.1 ⟨h.2.2.2.2.2.2.1, h.2.2.2.2.2.2.2.1⟩ v u
      exact ⟨x0.1, x0.2, x0.lt, x1.1, x1.2, x1.lt, x2.1, x2.2, x2.lt, (h.2.2.2.2.2.2.2.2.2.out.1.setCell (p := ⟨q, 0, none⟩) hq.2.2.2.2.2 v).setCell (p := ⟨q, 1, none⟩) hq.2.2.2.2.2 u, by simpa using h.2.2.2.2.2.2.2.2.2.out.2.1, (h.2.2.2.2.2.2.2.2.2.out.2.2.1).set' hq.2.2.2.1 v u, (h.2.2.2.2.2.2.2.2.2.out.2.2.2).set' hq.2.2.2.2.1 v u⟩
    have hS0 : wc.cell? ⟨k7, 0, none⟩ = some (.int .i64 P.1) ∧ wc.cell? ⟨k7, 1, none⟩ = some (.int .i64 P.2) ∧ k7 < wc.heap.size ∧ wc.cell? ⟨k9, 0, none⟩ = some (.int .i64 R.1) ∧ wc.cell? ⟨k9, 1, none⟩ = some (.int .i64 R.2) ∧ k9 < wc.heap.size ∧ wc.cell? ⟨k8, 0, none⟩ = some (.int .i64 Q.1) ∧ wc.cell? ⟨k8, 1, none⟩ = some (.int .i64 Q.2) ∧ k8 < wc.heap.size ∧ Hid (Below N w wc ∧ N ≤ wc.heap.size ∧ Bz wc t10 TX.1.1 TX.1.2 ∧ Bz wc t12 TY.1.1 TY.1.2) := ⟨HH.out.1.1, HH.out.1.2.1, HH.out.1.2.2.1, HH.out.1.2.2.2.1, HH.out.1.2.2.2.2.1, HH.out.1.2.2.2.2.2.1, HH.out.1.2.2.2.2.2.2.1, HH.out.1.2.2.2.2.2.2.2.1, HH.out.1.2.2.2.2.2.2.2.2.1, HH.out.1.2.2.2.2.2.2.2.2.2.out.1, HH.out.1.2.2.2.2.2.2.2.2.2.out.2.1, HH.out.1.2.2.2.2.2.2.2.2.2.out.2.2, HH.out.2.1⟩
    go_cut [14, 15] (fun v1 v2 wy => ∃ t, v1 = .pointer (some ⟨t, 0, none⟩) ∧ v2 = .bool TZ.2 ∧ Hid ((wy.cell? ⟨k7, 0, none⟩ = some (.int .i64 P.1) ∧ wy.cell? ⟨k7, 1, none⟩ = some (.int .i64 P.2) ∧ k7 < wy.heap.size ∧ wy.cell? ⟨k9, 0, none⟩ = some (.int .i64 R.1) ∧ wy.cell? ⟨k9, 1, none⟩ = some (.int .i64 R.2) ∧ k9 < wy.heap.size ∧ wy.cell? ⟨k8, 0, none⟩ = some (.int .i64 Q.1) ∧ wy.cell? ⟨k8, 1, none⟩ = some (.int .i64 Q.2) ∧ k8 < wy.heap.size ∧ Hid (Below N w wy ∧ N ≤ wy.heap.size ∧ Bz wy t10 TX.1.1 TX.1.2 ∧ Bz wy t12 TY.1.1 TY.1.2)) ∧ Bz wy t TZ.1.1 TZ.1.2 ∧ (k7 ≠ t ∧ k9 ≠ t ∧ k8 ≠ t ∧ t10 ≠ t ∧ t12 ≠ t ∧ N ≤ t)))
    case first =>
      refine wp_region_held_drew (S := fun w' => w'.cell? ⟨k7, 0, none⟩ = some (.int .i64 P.1) ∧ w'.cell? ⟨k7, 1, none⟩ = some (.int .i64 P.2) ∧ k7 < w'.heap.size ∧ w'.cell? ⟨k9, 0, none⟩ = some (.int .i64 R.1) ∧ w'.cell? ⟨k9, 1, none⟩ = some (.int .i64 R.2) ∧ k9 < w'.heap.size ∧ w'.cell? ⟨k8, 0, none⟩ = some (.int .i64 Q.1) ∧ w'.cell? ⟨k8, 1, none⟩ = some (.int .i64 Q.2) ∧ k8 < w'.heap.size ∧ Hid (Below N w w' ∧ N ≤ w'.heap.size ∧ Bz w' t10 TX.1.1 TX.1.2 ∧ Bz w' t12 TY.1.1 TY.1.2)) (by kernel_rfl) (HCL.out _ _ hS0 ((Below.refl _ _).drew)) (fun hH0 => ?_)
      obtain ⟨w0, hw0⟩ : ∃ w0, w0 = wc.drew := ⟨_, rfl⟩
      rw [← hw0] at hH0 ⊢
      clear hw0
      refine wpAnyH_take (i := 0) (oi := ({ dst := some 45, op := Op.move (Operand.tmp 0), type := 3, pos := "law.go:81", after := #[], guard := none } : Oper)) (v := ?_) rfl (by kernel_rfl) (by kernel_rfl) (by kernel_rfl) (fun _ _ _ h => h) (Or.inl ⟨by rfl, ?_⟩) (by assumption) ?_
      rotate_left
      · (intro wz hSw; (try dsimp only at hSw); go_simp; try with_reducible rfl)
      simp only [Act.put, List.setIfInBounds_toArray, List.set_cons_zero, List.set_cons_succ]
      refine wpAnyH_take (i := 1) (oi := ({ dst := some 46, op := Op.load 25 (Operand.tmp 7), type := 25, pos := "law.go:81", after := #[], guard := none } : Oper)) (v := ?_) rfl (by kernel_rfl) (by kernel_rfl) (by kernel_rfl) (fun _ _ _ h => h) (Or.inl ⟨by rfl, ?_⟩) (by assumption) ?_
      rotate_left
      · (intro wz hSw; (try dsimp only at hSw); go_simp; try with_reducible rfl)
      simp only [Act.put, List.setIfInBounds_toArray, List.set_cons_zero, List.set_cons_succ]
      refine wpAnyH_take (i := 2) (oi := ({ dst := some 47, op := Op.load 25 (Operand.tmp 8), type := 25, pos := "law.go:81", after := #[], guard := none } : Oper)) (v := ?_) rfl (by kernel_rfl) (by kernel_rfl) (by kernel_rfl) (fun _ _ _ h => h) (Or.inl ⟨by rfl, ?_⟩) (by assumption) ?_
      rotate_left
      · (intro wz hSw; (try dsimp only at hSw); go_simp; try with_reducible rfl)
      simp only [Act.put, List.setIfInBounds_toArray, List.set_cons_zero, List.set_cons_succ]
      refine wpAnyH_take (i := 3) (oi := ({ dst := some 48, op := Op.load 25 (Operand.tmp 9), type := 25, pos := "law.go:81", after := #[], guard := none } : Oper)) (v := ?_) rfl (by kernel_rfl) (by kernel_rfl) (by kernel_rfl) (fun _ _ _ h => h) (Or.inl ⟨by rfl, ?_⟩) (by assumption) ?_
      rotate_left
      · (intro wz hSw; (try dsimp only at hSw); go_simp; try with_reducible rfl)
      simp only [Act.put, List.setIfInBounds_toArray, List.set_cons_zero, List.set_cons_succ]
      refine wpAnyH_ready (rs := [4, 9]) (by kernel_rfl) (by simp) ?_
      refine AllReadyH.cons (o := ({ dst := some 49, op := Op.call { callee := Callee.value (Operand.func 21), args := #[Operand.tmp 47, Operand.tmp 48], argTypes := #[25, 25] }, type := 25, pos := "law.go:81", after := #[{ on := 2, ground := Ground.data }, { on := 3, ground := Ground.data }], guard := none } : Oper)) rfl (fun K hK => ?_) (AllReadyH.cons (o := ({ dst := some 14, op := Op.alloc 25, type := 0, pos := "law.go:81", after := #[], guard := none } : Oper)) rfl (fun K hK => ?_) AllReadyH.nil)
      · go_simp
        go_at_call 21
        refine (cK _).mono ?_
        rintro e w1 ⟨rfl, hb1⟩
        refine hK.out _ _ (HCL.out _ _ hH0 hb1) (fun hH1 => ?_)
        clear hK K
        refine wpAnyH_ready (rs := [5, 9]) (by kernel_rfl) (by simp) ?_
        refine AllReadyH.cons (o := ({ dst := some 50, op := Op.call { callee := Callee.value (Operand.func 29), args := #[Operand.tmp 45, Operand.tmp 46, Operand.tmp 49], argTypes := #[3, 25, 25] }, type := 28, pos := "law.go:81", after := #[{ on := 0, ground := Ground.data }, { on := 1, ground := Ground.data }, { on := 4, ground := Ground.data }, { on := 4, ground := Ground.chain }], guard := none } : Oper)) rfl (fun K hK => ?_) (AllReadyH.cons (o := ({ dst := some 14, op := Op.alloc 25, type := 0, pos := "law.go:81", after := #[], guard := none } : Oper)) rfl (fun K hK => ?_) AllReadyH.nil)
        · go_simp
          go_at_call 29
          refine (cZ _).mono ?_
          rintro e w2 ⟨rfl, hb2⟩
          refine hK.out _ _ (HCL.out _ _ hH1 hb2) (fun hH2 => ?_)
          clear hK K
          refine wpAnyH_take (i := 6) (oi := ({ dst := some 44, op := Op.move (Operand.tmp 50), type := 28, pos := "law.go:81", after := #[{ on := 5, ground := Ground.data }], guard := none } : Oper)) (v := ?_) rfl (by kernel_rfl) (by kernel_rfl) (by kernel_rfl) (fun _ _ _ h => h) (Or.inl ⟨by rfl, ?_⟩) (by assumption) ?_
          rotate_left
          · (intro wz hSw; (try dsimp only at hSw); go_simp; try with_reducible rfl)
          simp only [Act.put, List.setIfInBounds_toArray, List.set_cons_zero, List.set_cons_succ]
          refine wpAnyH_take (i := 7) (oi := ({ dst := some 51, op := Op.extract (Operand.tmp 44) 0, type := 25, pos := "law.go:81", after := #[{ on := 6, ground := Ground.data }], guard := none } : Oper)) (v := ?_) rfl (by kernel_rfl) (by kernel_rfl) (by kernel_rfl) (fun _ _ _ h => h) (Or.inl ⟨by rfl, ?_⟩) (by assumption) ?_
          rotate_left
          · (intro wz hSw; (try dsimp only at hSw); go_simp; try with_reducible rfl)
          simp only [Act.put, List.setIfInBounds_toArray, List.set_cons_zero, List.set_cons_succ]
          refine wpAnyH_take (i := 8) (oi := ({ dst := some 52, op := Op.extract (Operand.tmp 44) 1, type := 4, pos := "law.go:81", after := #[{ on := 6, ground := Ground.data }, { on := 10, ground := Ground.gcOnly Departure.lateStores }], guard := none } : Oper)) (v := ?_) rfl (by kernel_rfl) (by kernel_rfl) (by kernel_rfl) (fun _ _ _ h => h) (Or.inl ⟨by rfl, ?_⟩) (by assumption) ?_
          rotate_left
          · (intro wz hSw; (try dsimp only at hSw); go_simp; try with_reducible rfl)
          simp only [Act.put, List.setIfInBounds_toArray, List.set_cons_zero, List.set_cons_succ]
          refine wpAnyH_ready (rs := [9]) (by kernel_rfl) (by simp) ?_
          refine AllReadyH.cons (o := ({ dst := some 14, op := Op.alloc 25, type := 0, pos := "law.go:81", after := #[], guard := none } : Oper)) rfl (fun K hK => ?_) AllReadyH.nil
          · go_simp
            have hb3 : Below w2.heap.size w2 (w2.alloc (.cells #[.int .i64 0, .int .i64 0] 25)) := (Below.refl _ _).alloc (Nat.le_refl _) _
            have M3 := Bz.new w2 0 0 25
            have neM : k7 ≠ w2.heap.size ∧ k9 ≠ w2.heap.size ∧ k8 ≠ w2.heap.size ∧ t10 ≠ w2.heap.size ∧ t12 ≠ w2.heap.size ∧ N ≤ w2.heap.size := ⟨Nat.ne_of_lt hH2.2.2.1, Nat.ne_of_lt hH2.2.2.2.2.2.1, Nat.ne_of_lt hH2.2.2.2.2.2.2.2.2.1, Nat.ne_of_lt (hH2.2.2.2.2.2.2.2.2.2.out.2.2.1).1.lt, Nat.ne_of_lt (hH2.2.2.2.2.2.2.2.2.2.out.2.2.2).1.lt, hH2.2.2.2.2.2.2.2.2.2.out.2.1⟩
            refine hK.out _ _ (HCL.out _ _ hH2 hb3) (fun hH3 => ?_)
            clear hK K
            obtain ⟨w3, hw3⟩ : ∃ w3, w3 = (w2.alloc (.cells #[.int .i64 0, .int .i64 0] 25)) := ⟨_, rfl⟩
            rw [← hw3] at hH3 M3 ⊢
            clear hw3
            generalize w2.heap.size = kM at *
            refine wpAnyH_ready (rs := [10]) (by kernel_rfl) (by simp) ?_
            refine AllReadyH.cons (o := ({ dst := none, op := Op.store 25 (Operand.tmp 14) (Operand.tmp 51), type := 0, pos := "law.go:81", after := #[{ on := 9, ground := Ground.data }, { on := 7, ground := Ground.data }, { on := 5, ground := Ground.chain }, { on := 0, ground := Ground.phase }, { on := 1, ground := Ground.phase }, { on := 2, ground := Ground.phase }, { on := 3, ground := Ground.phase }, { on := 4, ground := Ground.phase }, { on := 5, ground := Ground.phase }, { on := 6, ground := Ground.phase }, { on := 7, ground := Ground.phase }, { on := 8, ground := Ground.textOnly Departure.lateStores }, { on := 9, ground := Ground.phase }], guard := none } : Oper)) rfl (fun K hK => ?_) AllReadyH.nil
            · have c0 := M3.1.1
              have c1 := M3.1.2
              have c2 := M3.2.1
              have c3 := M3.2.2
              go_simp
              have M4 := M3.wrote (x' := TZ.1.1) (y' := TZ.1.2)
              refine hK.out _ _ (HST.out _ kM _ _ neM hH3) (fun hH4 => ?_)
              clear hK K c0 c1 c2 c3
              obtain ⟨w4, hw4⟩ : ∃ w4, w4 = ((w3.setCell ⟨kM, 0, none⟩ (.int .i64 TZ.1.1)).setCell ⟨kM, 1, none⟩ (.int .i64 TZ.1.2)) := ⟨_, rfl⟩
              rw [← hw4] at hH4 M4 ⊢
              clear hw4
              refine wpAnyH_take (i := 11) (oi := ({ dst := some 15, op := Op.assign (Operand.tmp 52), type := 4, pos := "law.go:81", after := #[{ on := 8, ground := Ground.data }, { on := 10, ground := Ground.chain }, { on := 0, ground := Ground.phase }, { on := 1, ground := Ground.phase }, { on := 2, ground := Ground.phase }, { on := 3, ground := Ground.phase }, { on := 4, ground := Ground.phase }, { on := 5, ground := Ground.phase }, { on := 6, ground := Ground.phase }, { on := 7, ground := Ground.phase }, { on := 8, ground := Ground.phase }, { on := 9, ground := Ground.phase }, { on := 10, ground := Ground.phase }], guard := none } : Oper)) (v := ?_) rfl (by kernel_rfl) (by kernel_rfl) (by kernel_rfl) (fun _ _ _ h => h) (Or.inl ⟨by rfl, ?_⟩) (by assumption) ?_
              rotate_left
              · (intro wz hSw; (try dsimp only at hSw); go_simp; try with_reducible rfl)
              simp only [Act.put, List.setIfInBounds_toArray, List.set_cons_zero, List.set_cons_succ]
              refine wpAnyH_done (by kernel_rfl) ?_ _
              go_wp2
              go_meet
              case rel => exact ⟨_, rfl, rfl, hH4, M4, neM⟩
        · go_simp
          have hb2 : Below w1.heap.size w1 (w1.alloc (.cells #[.int .i64 0, .int .i64 0] 25)) := (Below.refl _ _).alloc (Nat.le_refl _) _
          have M2 := Bz.new w1 0 0 25
          have neM : k7 ≠ w1.heap.size ∧ k9 ≠ w1.heap.size ∧ k8 ≠ w1.heap.size ∧ t10 ≠ w1.heap.size ∧ t12 ≠ w1.heap.size ∧ N ≤ w1.heap.size := ⟨Nat.ne_of_lt hH1.2.2.1, Nat.ne_of_lt hH1.2.2.2.2.2.1, Nat.ne_of_lt hH1.2.2.2.2.2.2.2.2.1, Nat.ne_of_lt (hH1.2.2.2.2.2.2.2.2.2.out.2.2.1).1.lt, Nat.ne_of_lt (hH1.2.2.2.2.2.2.2.2.2.out.2.2.2).1.lt, hH1.2.2.2.2.2.2.2.2.2.out.2.1⟩
          refine hK.out _ _ (HCL.out _ _ hH1 hb2) (fun hH2 => ?_)
          clear hK K
          obtain ⟨w2, hw2⟩ : ∃ w2, w2 = (w1.alloc (.cells #[.int .i64 0, .int .i64 0] 25)) := ⟨_, rfl⟩
          rw [← hw2] at hH2 M2 ⊢
          clear hw2
          generalize w1.heap.size = kM at *
          refine wpAnyH_ready (rs := [5]) (by kernel_rfl) (by simp) ?_
          refine AllReadyH.cons (o := ({ dst := some 50, op := Op.call { callee := Callee.value (Operand.func 29), args := #[Operand.tmp 45, Operand.tmp 46, Operand.tmp 49], argTypes := #[3, 25, 25] }, type := 28, pos := "law.go:81", after := #[{ on := 0, ground := Ground.data }, { on := 1, ground := Ground.data }, { on := 4, ground := Ground.data }, { on := 4, ground := Ground.chain }], guard := none } : Oper)) rfl (fun K hK => ?_) AllReadyH.nil
          · go_simp
            go_at_call 29
            refine (cZ _).mono ?_
            rintro e w3 ⟨rfl, hb3⟩
            have M3 := M2.keep hb3
            refine hK.out _ _ (HCL.out _ _ hH2 hb3) (fun hH3 => ?_)
            clear hK K
            refine wpAnyH_take (i := 6) (oi := ({ dst := some 44, op := Op.move (Operand.tmp 50), type := 28, pos := "law.go:81", after := #[{ on := 5, ground := Ground.data }], guard := none } : Oper)) (v := ?_) rfl (by kernel_rfl) (by kernel_rfl) (by kernel_rfl) (fun _ _ _ h => h) (Or.inl ⟨by rfl, ?_⟩) (by assumption) ?_
            rotate_left
            · (intro wz hSw; (try dsimp only at hSw); go_simp; try with_reducible rfl)
            simp only [Act.put, List.setIfInBounds_toArray, List.set_cons_zero, List.set_cons_succ]
            refine wpAnyH_take (i := 7) (oi := ({ dst := some 51, op := Op.extract (Operand.tmp 44) 0, type := 25, pos := "law.go:81", after := #[{ on := 6, ground := Ground.data }], guard := none } : Oper)) (v := ?_) rfl (by kernel_rfl) (by kernel_rfl) (by kernel_rfl) (fun _ _ _ h => h) (Or.inl ⟨by rfl, ?_⟩) (by assumption) ?_
            rotate_left
            · (intro wz hSw; (try dsimp only at hSw); go_simp; try with_reducible rfl)
            simp only [Act.put, List.setIfInBounds_toArray, List.set_cons_zero, List.set_cons_succ]
            refine wpAnyH_take (i := 8) (oi := ({ dst := some 52, op := Op.extract (Operand.tmp 44) 1, type := 4, pos := "law.go:81", after := #[{ on := 6, ground := Ground.data }, { on := 10, ground := Ground.gcOnly Departure.lateStores }], guard := none } : Oper)) (v := ?_) rfl (by kernel_rfl) (by kernel_rfl) (by kernel_rfl) (fun _ _ _ h => h) (Or.inl ⟨by rfl, ?_⟩) (by assumption) ?_
            rotate_left
            · (intro wz hSw; (try dsimp only at hSw); go_simp; try with_reducible rfl)
            simp only [Act.put, List.setIfInBounds_toArray, List.set_cons_zero, List.set_cons_succ]
            refine wpAnyH_ready (rs := [10]) (by kernel_rfl) (by simp) ?_
            refine AllReadyH.cons (o := ({ dst := none, op := Op.store 25 (Operand.tmp 14) (Operand.tmp 51), type := 0, pos := "law.go:81", after := #[{ on := 9, ground := Ground.data }, { on := 7, ground := Ground.data }, { on := 5, ground := Ground.chain }, { on := 0, ground := Ground.phase }, { on := 1, ground := Ground.phase }, { on := 2, ground := Ground.phase }, { on := 3, ground := Ground.phase }, { on := 4, ground := Ground.phase }, { on := 5, ground := Ground.phase }, { on := 6, ground := Ground.phase }, { on := 7, ground := Ground.phase }, { on := 8, ground := Ground.textOnly Departure.lateStores }, { on := 9, ground := Ground.phase }], guard := none } : Oper)) rfl (fun K hK => ?_) AllReadyH.nil
            · have c0 := M3.1.1
              have c1 := M3.1.2
              have c2 := M3.2.1
              have c3 := M3.2.2
              go_simp
              have M4 := M3.wrote (x' := TZ.1.1) (y' := TZ.1.2)
              refine hK.out _ _ (HST.out _ kM _ _ neM hH3) (fun hH4 => ?_)
              clear hK K c0 c1 c2 c3
              obtain ⟨w4, hw4⟩ : ∃ w4, w4 = ((w3.setCell ⟨kM, 0, none⟩ (.int .i64 TZ.1.1)).setCell ⟨kM, 1, none⟩ (.int .i64 TZ.1.2)) := ⟨_, rfl⟩
              rw [← hw4] at hH4 M4 ⊢
              clear hw4
              refine wpAnyH_take (i := 11) (oi := ({ dst := some 15, op := Op.assign (Operand.tmp 52), type := 4, pos := "law.go:81", after := #[{ on := 8, ground := Ground.data }, { on := 10, ground := Ground.chain }, { on := 0, ground := Ground.phase }, { on := 1, ground := Ground.phase }, { on := 2, ground := Ground.phase }, { on := 3, ground := Ground.phase }, { on := 4, ground := Ground.phase }, { on := 5, ground := Ground.phase }, { on := 6, ground := Ground.phase }, { on := 7, ground := Ground.phase }, { on := 8, ground := Ground.phase }, { on := 9, ground := Ground.phase }, { on := 10, ground := Ground.phase }], guard := none } : Oper)) (v := ?_) rfl (by kernel_rfl) (by kernel_rfl) (by kernel_rfl) (fun _ _ _ h => h) (Or.inl ⟨by rfl, ?_⟩) (by assumption) ?_
              rotate_left
              · (intro wz hSw; (try dsimp only at hSw); go_simp; try with_reducible rfl)
              simp only [Act.put, List.setIfInBounds_toArray, List.set_cons_zero, List.set_cons_succ]
              refine wpAnyH_done (by kernel_rfl) ?_ _
              go_wp2
              go_meet
              case rel => exact ⟨_, rfl, rfl, hH4, M4, neM⟩
      · go_simp
        have hb1 : Below w0.heap.size w0 (w0.alloc (.cells #[.int .i64 0, .int .i64 0] 25)) := (Below.refl _ _).alloc (Nat.le_refl _) _
        have M1 := Bz.new w0 0 0 25
        have neM : k7 ≠ w0.heap.size ∧ k9 ≠ w0.heap.size ∧ k8 ≠ w0.heap.size ∧ t10 ≠ w0.heap.size ∧ t12 ≠ w0.heap.size ∧ N ≤ w0.heap.size := ⟨Nat.ne_of_lt hH0.2.2.1, Nat.ne_of_lt hH0.2.2.2.2.2.1, Nat.ne_of_lt hH0.2.2.2.2.2.2.2.2.1, Nat.ne_of_lt (hH0.2.2.2.2.2.2.2.2.2.out.2.2.1).1.lt, Nat.ne_of_lt (hH0.2.2.2.2.2.2.2.2.2.out.2.2.2).1.lt, hH0.2.2.2.2.2.2.2.2.2.out.2.1⟩
        refine hK.out _ _ (HCL.out _ _ hH0 hb1) (fun hH1 => ?_)
        clear hK K
        obtain ⟨w1, hw1⟩ : ∃ w1, w1 = (w0.alloc (.cells #[.int .i64 0, .int .i64 0] 25)) := ⟨_, rfl⟩
        rw [← hw1] at hH1 M1 ⊢
        clear hw1
        generalize w0.heap.size = kM at *
        refine wpAnyH_ready (rs := [4]) (by kernel_rfl) (by simp) ?_
        refine AllReadyH.cons (o := ({ dst := some 49, op := Op.call { callee := Callee.value (Operand.func 21), args := #[Operand.tmp 47, Operand.tmp 48], argTypes := #[25, 25] }, type := 25, pos := "law.go:81", after := #[{ on := 2, ground := Ground.data }, { on := 3, ground := Ground.data }], guard := none } : Oper)) rfl (fun K hK => ?_) AllReadyH.nil
        · go_simp
          go_at_call 21
          refine (cK _).mono ?_
          rintro e w2 ⟨rfl, hb2⟩
          have M2 := M1.keep hb2
          refine hK.out _ _ (HCL.out _ _ hH1 hb2) (fun hH2 => ?_)
          clear hK K
          refine wpAnyH_ready (rs := [5]) (by kernel_rfl) (by simp) ?_
          refine AllReadyH.cons (o := ({ dst := some 50, op := Op.call { callee := Callee.value (Operand.func 29), args := #[Operand.tmp 45, Operand.tmp 46, Operand.tmp 49], argTypes := #[3, 25, 25] }, type := 28, pos := "law.go:81", after := #[{ on := 0, ground := Ground.data }, { on := 1, ground := Ground.data }, { on := 4, ground := Ground.data }, { on := 4, ground := Ground.chain }], guard := none } : Oper)) rfl (fun K hK => ?_) AllReadyH.nil
          · go_simp
            go_at_call 29
            refine (cZ _).mono ?_
            rintro e w3 ⟨rfl, hb3⟩
            have M3 := M2.keep hb3
            refine hK.out _ _ (HCL.out _ _ hH2 hb3) (fun hH3 => ?_)
            clear hK K
            refine wpAnyH_take (i := 6) (oi := ({ dst := some 44, op := Op.move (Operand.tmp 50), type := 28, pos := "law.go:81", after := #[{ on := 5, ground := Ground.data }], guard := none } : Oper)) (v := ?_) rfl (by kernel_rfl) (by kernel_rfl) (by kernel_rfl) (fun _ _ _ h => h) (Or.inl ⟨by rfl, ?_⟩) (by assumption) ?_
            rotate_left
            · (intro wz hSw; (try dsimp only at hSw); go_simp; try with_reducible rfl)
            simp only [Act.put, List.setIfInBounds_toArray, List.set_cons_zero, List.set_cons_succ]
            refine wpAnyH_take (i := 7) (oi := ({ dst := some 51, op := Op.extract (Operand.tmp 44) 0, type := 25, pos := "law.go:81", after := #[{ on := 6, ground := Ground.data }], guard := none } : Oper)) (v := ?_) rfl (by kernel_rfl) (by kernel_rfl) (by kernel_rfl) (fun _ _ _ h => h) (Or.inl ⟨by rfl, ?_⟩) (by assumption) ?_
            rotate_left
            · (intro wz hSw; (try dsimp only at hSw); go_simp; try with_reducible rfl)
            simp only [Act.put, List.setIfInBounds_toArray, List.set_cons_zero, List.set_cons_succ]
            refine wpAnyH_take (i := 8) (oi := ({ dst := some 52, op := Op.extract (Operand.tmp 44) 1, type := 4, pos := "law.go:81", after := #[{ on := 6, ground := Ground.data }, { on := 10, ground := Ground.gcOnly Departure.lateStores }], guard := none } : Oper)) (v := ?_) rfl (by kernel_rfl) (by kernel_rfl) (by kernel_rfl) (fun _ _ _ h => h) (Or.inl ⟨by rfl, ?_⟩) (by assumption) ?_
            rotate_left
            · (intro wz hSw; (try dsimp only at hSw); go_simp; try with_reducible rfl)
            simp only [Act.put, List.setIfInBounds_toArray, List.set_cons_zero, List.set_cons_succ]
            refine wpAnyH_ready (rs := [10]) (by kernel_rfl) (by simp) ?_
            refine AllReadyH.cons (o := ({ dst := none, op := Op.store 25 (Operand.tmp 14) (Operand.tmp 51), type := 0, pos := "law.go:81", after := #[{ on := 9, ground := Ground.data }, { on := 7, ground := Ground.data }, { on := 5, ground := Ground.chain }, { on := 0, ground := Ground.phase }, { on := 1, ground := Ground.phase }, { on := 2, ground := Ground.phase }, { on := 3, ground := Ground.phase }, { on := 4, ground := Ground.phase }, { on := 5, ground := Ground.phase }, { on := 6, ground := Ground.phase }, { on := 7, ground := Ground.phase }, { on := 8, ground := Ground.textOnly Departure.lateStores }, { on := 9, ground := Ground.phase }], guard := none } : Oper)) rfl (fun K hK => ?_) AllReadyH.nil
            · have c0 := M3.1.1
              have c1 := M3.1.2
              have c2 := M3.2.1
              have c3 := M3.2.2
              go_simp
              have M4 := M3.wrote (x' := TZ.1.1) (y' := TZ.1.2)
              refine hK.out _ _ (HST.out _ kM _ _ neM hH3) (fun hH4 => ?_)
              clear hK K c0 c1 c2 c3
              obtain ⟨w4, hw4⟩ : ∃ w4, w4 = ((w3.setCell ⟨kM, 0, none⟩ (.int .i64 TZ.1.1)).setCell ⟨kM, 1, none⟩ (.int .i64 TZ.1.2)) := ⟨_, rfl⟩
              rw [← hw4] at hH4 M4 ⊢
              clear hw4
              refine wpAnyH_take (i := 11) (oi := ({ dst := some 15, op := Op.assign (Operand.tmp 52), type := 4, pos := "law.go:81", after := #[{ on := 8, ground := Ground.data }, { on := 10, ground := Ground.chain }, { on := 0, ground := Ground.phase }, { on := 1, ground := Ground.phase }, { on := 2, ground := Ground.phase }, { on := 3, ground := Ground.phase }, { on := 4, ground := Ground.phase }, { on := 5, ground := Ground.phase }, { on := 6, ground := Ground.phase }, { on := 7, ground := Ground.phase }, { on := 8, ground := Ground.phase }, { on := 9, ground := Ground.phase }, { on := 10, ground := Ground.phase }], guard := none } : Oper)) (v := ?_) rfl (by kernel_rfl) (by kernel_rfl) (by kernel_rfl) (fun _ _ _ h => h) (Or.inl ⟨by rfl, ?_⟩) (by assumption) ?_
              rotate_left
              · (intro wz hSw; (try dsimp only at hSw); go_simp; try with_reducible rfl)
              simp only [Act.put, List.setIfInBounds_toArray, List.set_cons_zero, List.set_cons_succ]
              refine wpAnyH_done (by kernel_rfl) ?_ _
              go_wp2
              go_meet
              case rel => exact ⟨_, rfl, rfl, hH4, M4, neM⟩
    case rest =>
      obtain ⟨t14, rfl, rfl, HH9⟩ := hcut
      clear HCL HST hS0 HH cK cZ
      have RI : Hid (Ri w wc N k7 k9 t10 t12 P R TX.1 TY.1 ∧ Bx wc t14 TZ.1.1 TZ.1.2) := ⟨⟨⟨HH9.out.1.1, HH9.out.1.2.1⟩, ⟨HH9.out.1.2.2.2.1, HH9.out.1.2.2.2.2.1⟩, HH9.out.1.2.2.2.2.2.2.2.2.2.out.2.2.1, HH9.out.1.2.2.2.2.2.2.2.2.2.out.2.2.2, HH9.out.1.2.2.2.2.2.2.2.2.2.out.1, ⟨HD.out.1, HD.out.2.1, HE.out.1, HE.out.2.1, HE.out.2.2.2.1⟩, HD.out.2.2, HE.out.2.2.2.2, HH9.out.1.2.2.2.2.2.2.2.2.2.out.2.1⟩, HH9.out.2.1.1⟩
      clear HH9 HD HE
      have hs : ∀ n m : Nat, n < m → n < m + 1 := fun n m h => by omega
      go_upto_region 5 with fail
      go_cut [11, 13, 15, 77] (fun _ _ _ v1 wy => v1 = .bool false ∧ Hid (Ri w wy N k7 k9 t10 t12 P R TX.1 TY.1))
      case first =>
        by_cases q1 : TX.2 = true
        · have g1 := HR.out.1 q1
          have g2 := HR.out.2.1 q1
          have g3 := within_of g1.2
          have g4 := within_of g2.2
          have g5 := g1.1
          have g6 := g2.1
          clear g1 g2
          go_wp2_with (first | (go_at_call 14; refine (told_any _).mono ?_; rintro e wT ⟨rfl, hT⟩; have RT := RI.out.1.keep hT; have UT := RI.out.2.keep hT; have x0 := (RT.x.1).1; have x1 := (RT.x.1).2; have x2 := (RT.x.1).lt; have x3 := hs _ _ x2; have x4 := hs _ _ x3; have x5 := hs _ _ x4; have x6 := hs _ _ x5; have y0 := (RT.y.1).1; have y1 := (RT.y.1).2; have y2 := (RT.y.1).lt; have y3 := hs _ _ y2; have y4 := hs _ _ y3; have y5 := hs _ _ y4; have y6 := hs _ _ y5; have z0 := (UT).1; have z1 := (UT).2; have z2 := (UT).lt; have z3 := hs _ _ z2; have z4 := hs _ _ z3; have z5 := hs _ _ z4; have z6 := hs _ _ z5) | (go_at_call 23; refine (within_any _ _ _ _ _).mono ?_; rintro e w1 ⟨rfl, o1, o2, rfl⟩))
          go_meet
          case rel => exact ⟨rfl, RT.keep (by exact (by repeat (first | exact Below.refl _ _ | (refine Below.drew ?_) | (refine below_drewN ?_ _) | (refine Below.setCell ?_ (by first | omega | (simp; done) | (simp; omega)) _) | (refine Below.alloc ?_ (by first | omega | (simp; done) | (simp; omega)) _) | (refine Below.trans ?_ (Below.mono (by assumption) (by first | omega | (simp; done) | (simp; omega)))))))⟩
        · have q1 : TX.2 = false := by simpa using q1
          go_wp2_with (first | (go_at_call 14; refine (told_any _).mono ?_; rintro e wT ⟨rfl, hT⟩; have RT := RI.out.1.keep hT; have UT := RI.out.2.keep hT; have x0 := (RT.x.1).1; have x1 := (RT.x.1).2; have x2 := (RT.x.1).lt; have x3 := hs _ _ x2; have x4 := hs _ _ x3; have x5 := hs _ _ x4; have x6 := hs _ _ x5; have y0 := (RT.y.1).1; have y1 := (RT.y.1).2; have y2 := (RT.y.1).lt; have y3 := hs _ _ y2; have y4 := hs _ _ y3; have y5 := hs _ _ y4; have y6 := hs _ _ y5; have z0 := (UT).1; have z1 := (UT).2; have z2 := (UT).lt; have z3 := hs _ _ z2; have z4 := hs _ _ z3; have z5 := hs _ _ z4; have z6 := hs _ _ z5) | (go_at_call 23; refine (within_any _ _ _ _ _).mono ?_; rintro e w1 ⟨rfl, o1, o2, rfl⟩))
          go_meet
          case rel => exact ⟨rfl, RT⟩
      case rest =>
        obtain ⟨rfl, RJ⟩ := hcut
        clear RI
        have a0 := RJ.out.a.1
        have a1 := RJ.out.a.2
        have b0 := RJ.out.c.1
        have b1 := RJ.out.c.2
        go_upto_region 8 with (go_at_call 27; refine (cO _).mono ?_; rintro e wK ⟨rfl, hK⟩; have RK := RJ.out.keep hK; have s0 := RK.x.1.1; have s1 := RK.x.1.2; have s2 := RK.x.2.1; have s3 := RK.x.2.2)
        go_name_world W8 hW
        have R8 : Hid (Ri w W8 N k7 k9 t10 t12 P R OX.1 TY.1) := by rw [← hW]; exact RK.setx OX.1
        clear hW hK RK s0 s1 s2 s3 a0 a1 b0 b1 RJ
        have a0 := R8.out.a.1
        have a1 := R8.out.a.2
        have b0 := R8.out.c.1
        have b1 := R8.out.c.2
        go_upto_region 9 with (first | (go_at_call 21; refine (cJ _).mono ?_; rintro e wJ ⟨rfl, hJ⟩; have RQ := R8.out.keep hJ) | (go_at_call 27; refine (cV _).mono ?_; rintro e wK ⟨rfl, hK⟩; have RK := RQ.keep hK; have s0 := RK.y.1.1; have s1 := RK.y.1.2; have s2 := RK.y.2.1; have s3 := RK.y.2.2))
        go_name_world W9 hW
        have R9 : Hid (Ri w W9 N k7 k9 t10 t12 P R OX.1 OY.1) := by rw [← hW]; exact RK.sety OY.1
        clear hW hK RK s0 s1 s2 s3 a0 a1 b0 b1 R8 RQ hJ
        go_cut [11, 13, 102] (fun _ _ v1 wy => v1 = .bool false ∧ Hid (Ri w wy N k7 k9 t10 t12 P R OX.1 OY.1))
        case first =>
          have x0 := (R9.out.x.1).1
          have x1 := (R9.out.x.1).2
          have x2 := (R9.out.x.1).lt
          have x3 := hs _ _ x2
          have x4 := hs _ _ x3
          have x5 := hs _ _ x4
          have x6 := hs _ _ x5
          have y0 := (R9.out.y.1).1
          have y1 := (R9.out.y.1).2
          have y2 := (R9.out.y.1).lt
          have y3 := hs _ _ y2
          have y4 := hs _ _ y3
          have y5 := hs _ _ y4
          have y6 := hs _ _ y5
          by_cases q1 : OX.2 = true
          · have g1 := HR.out.2.2.1 q1
            have g3 := within_of g1.2
            have g5 := g1.1
            clear g1
            go_wp2_with (go_at_call 23; refine (within_any _ _ _ _ _).mono ?_; rintro e w1 ⟨rfl, o1, o2, rfl⟩)
            go_meet
            case rel => exact ⟨rfl, R9.out.keep (by exact (by repeat (first | exact Below.refl _ _ | (refine Below.drew ?_) | (refine below_drewN ?_ _) | (refine Below.setCell ?_ (by first | omega | (simp; done) | (simp; omega)) _) | (refine Below.alloc ?_ (by first | omega | (simp; done) | (simp; omega)) _) | (refine Below.trans ?_ (Below.mono (by assumption) (by first | omega | (simp; done) | (simp; omega)))))))⟩
          · have q1 : OX.2 = false := by simpa using q1
            go_wp2_with (go_at_call 23; refine (within_any _ _ _ _ _).mono ?_; rintro e w1 ⟨rfl, o1, o2, rfl⟩)
            go_meet
            case rel => exact ⟨rfl, R9⟩
        case rest =>
          obtain ⟨rfl, RL⟩ := hcut
          clear R9 cO cV
          go_wp2_with fail
          go_loopw [16] (fun ix wr => ∃ (i : Nat) (x y : Int × Int), i ≤ 2 ∧ ix = .int .i64 i ∧ Hid (Ri w wr N k7 k9 t10 t12 P R x y)) (fun i _ => 2 - (intOf i).toNat)
          case atStart => exact ⟨0, _, _, by omega, rfl, RL⟩
          case round =>
            obtain ⟨i, x, y, hi, rfl, RA⟩ := hrel
            clear RL
            rcases (by omega : i = 0 ∨ i = 1 ∨ i = 2) with rfl | rfl | rfl
            · have hbr := HR.out.2.2.2 false
              have cP := fun w => branch_any P false w
              have cQ := fun w => branch_any J false w
              generalize branchP P false = BP at *
              generalize branchP J false = BQ at *
              have HBR : Hid (BP.2 = true → BQ.2 = true ∧ Wi BP.1 BQ.1) := hbr
              clear hbr
              have a0 := RA.out.a.1
              have a1 := RA.out.a.2
              have b0 := RA.out.c.1
              have b1 := RA.out.c.2
              go_upto_region 15 with (go_at_call 31; refine (cP _).mono ?_; rintro e wK ⟨rfl, hK⟩; have RK := RA.out.keep hK; have s0 := RK.x.1.1; have s1 := RK.x.1.2; have s2 := RK.x.2.1; have s3 := RK.x.2.2)
              go_name_world W15 hW
              have R15 : Hid (Ri w W15 N k7 k9 t10 t12 P R BP.1 y) := by rw [← hW]; exact RK.setx BP.1
              clear hW hK RK s0 s1 s2 s3 a0 a1 b0 b1 RA
              have a0 := R15.out.a.1
              have a1 := R15.out.a.2
              have b0 := R15.out.c.1
              have b1 := R15.out.c.2
              go_upto_region 16 with (first | (go_at_call 21; refine (cJ _).mono ?_; rintro e wJ ⟨rfl, hJ⟩; have RQ := R15.out.keep hJ) | (go_at_call 31; refine (cQ _).mono ?_; rintro e wK ⟨rfl, hK⟩; have RK := RQ.keep hK; have s0 := RK.y.1.1; have s1 := RK.y.1.2; have s2 := RK.y.2.1; have s3 := RK.y.2.2))
              go_name_world W16 hW
              have R16 : Hid (Ri w W16 N k7 k9 t10 t12 P R BP.1 BQ.1) := by rw [← hW]; exact RK.sety BQ.1
              clear hW hK RK s0 s1 s2 s3 a0 a1 b0 b1 R15 RQ hJ cP cQ
              have x0 := (R16.out.x.1).1
              have x1 := (R16.out.x.1).2
              have x2 := (R16.out.x.1).lt
              have x3 := hs _ _ x2
              have x4 := hs _ _ x3
              have x5 := hs _ _ x4
              have x6 := hs _ _ x5
              have y0 := (R16.out.y.1).1
              have y1 := (R16.out.y.1).2
              have y2 := (R16.out.y.1).lt
              have y3 := hs _ _ y2
              have y4 := hs _ _ y3
              have y5 := hs _ _ y4
              have y6 := hs _ _ y5
              by_cases q1 : BP.2 = true
              · have g1 := HBR.out q1
                have g3 := within_of g1.2
                have g5 := g1.1
                clear g1
                go_wp2_with (go_at_call 23; refine (within_any _ _ _ _ _).mono ?_; rintro e w1 ⟨rfl, o1, o2, rfl⟩)
                go_round
                case rel => exact ⟨1, _, _, by omega, rfl, R16.out.keep (by exact (by repeat (first | exact Below.refl _ _ | (refine Below.drew ?_) | (refine below_drewN ?_ _) | (refine Below.setCell ?_ (by first | omega | (simp; done) | (simp; omega)) _) | (refine Below.alloc ?_ (by first | omega | (simp; done) | (simp; omega)) _) | (refine Below.trans ?_ (Below.mono (by assumption) (by first | omega | (simp; done) | (simp; omega)))))))⟩
                case measure => simp [intOf]
              · have q1 : BP.2 = false := by simpa using q1
                go_wp2_with (go_at_call 23; refine (within_any _ _ _ _ _).mono ?_; rintro e w1 ⟨rfl, o1, o2, rfl⟩)
                go_round
                case rel => exact ⟨1, _, _, by omega, rfl, R16⟩
                case measure => simp [intOf]
            · have hbr := HR.out.2.2.2 true
              have cP := fun w => branch_any P true w
              have cQ := fun w => branch_any J true w
              generalize branchP P true = BP at *
              generalize branchP J true = BQ at *
              have HBR : Hid (BP.2 = true → BQ.2 = true ∧ Wi BP.1 BQ.1) := hbr
              clear hbr
              have a0 := RA.out.a.1
              have a1 := RA.out.a.2
              have b0 := RA.out.c.1
              have b1 := RA.out.c.2
              go_upto_region 15 with (go_at_call 31; refine (cP _).mono ?_; rintro e wK ⟨rfl, hK⟩; have RK := RA.out.keep hK; have s0 := RK.x.1.1; have s1 := RK.x.1.2; have s2 := RK.x.2.1; have s3 := RK.x.2.2)
              go_name_world W15 hW
              have R15 : Hid (Ri w W15 N k7 k9 t10 t12 P R BP.1 y) := by rw [← hW]; exact RK.setx BP.1
              clear hW hK RK s0 s1 s2 s3 a0 a1 b0 b1 RA
              have a0 := R15.out.a.1
              have a1 := R15.out.a.2
              have b0 := R15.out.c.1
              have b1 := R15.out.c.2
              go_upto_region 16 with (first | (go_at_call 21; refine (cJ _).mono ?_; rintro e wJ ⟨rfl, hJ⟩; have RQ := R15.out.keep hJ) | (go_at_call 31; refine (cQ _).mono ?_; rintro e wK ⟨rfl, hK⟩; have RK := RQ.keep hK; have s0 := RK.y.1.1; have s1 := RK.y.1.2; have s2 := RK.y.2.1; have s3 := RK.y.2.2))
              go_name_world W16 hW
              have R16 : Hid (Ri w W16 N k7 k9 t10 t12 P R BP.1 BQ.1) := by rw [← hW]; exact RK.sety BQ.1
              clear hW hK RK s0 s1 s2 s3 a0 a1 b0 b1 R15 RQ hJ cP cQ
              have x0 := (R16.out.x.1).1
              have x1 := (R16.out.x.1).2
              have x2 := (R16.out.x.1).lt
              have x3 := hs _ _ x2
              have x4 := hs _ _ x3
              have x5 := hs _ _ x4
              have x6 := hs _ _ x5
              have y0 := (R16.out.y.1).1
              have y1 := (R16.out.y.1).2
              have y2 := (R16.out.y.1).lt
              have y3 := hs _ _ y2
              have y4 := hs _ _ y3
              have y5 := hs _ _ y4
              have y6 := hs _ _ y5
              by_cases q1 : BP.2 = true
              · have g1 := HBR.out q1
                have g3 := within_of g1.2
                have g5 := g1.1
                clear g1
                go_wp2_with (go_at_call 23; refine (within_any _ _ _ _ _).mono ?_; rintro e w1 ⟨rfl, o1, o2, rfl⟩)
                go_round
                case rel => exact ⟨2, _, _, by omega, rfl, R16.out.keep (by exact (by repeat (first | exact Below.refl _ _ | (refine Below.drew ?_) | (refine below_drewN ?_ _) | (refine Below.setCell ?_ (by first | omega | (simp; done) | (simp; omega)) _) | (refine Below.alloc ?_ (by first | omega | (simp; done) | (simp; omega)) _) | (refine Below.trans ?_ (Below.mono (by assumption) (by first | omega | (simp; done) | (simp; omega)))))))⟩
                case measure => simp [intOf]
              · have q1 : BP.2 = false := by simpa using q1
                go_wp2_with (go_at_call 23; refine (within_any _ _ _ _ _).mono ?_; rintro e w1 ⟨rfl, o1, o2, rfl⟩)
                go_round
                case rel => exact ⟨2, _, _, by omega, rfl, R16⟩
                case measure => simp [intOf]
            · go_wp2_with fail
              go_ret
              exact ⟨rfl, by rw [← HN.out]; exact RA.out.bel⟩
end Go.Proofs.Ytpegiljajlljkaa
