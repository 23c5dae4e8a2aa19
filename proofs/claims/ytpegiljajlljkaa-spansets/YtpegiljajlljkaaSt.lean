import Derived.Test.YtpegiljajlljkaaWd
namespace Go.Proofs.Ytpegiljajlljkaa
open Go.RowKit
set_option maxRecDepth 100000 in
set_option maxHeartbeats 32000000 in
theorem ssets_walk (al ah bl bh n : Int) (w : World) : Calls Try.prog 3 #[.agg #[.int .i64 al, .int .i64 ah], .agg #[.int .i64 bl, .int .i64 bh], .int .i64 n] w fun e w' => e = .returned (.bool true) ∧ Below w.heap.size w w' := by
  have cF := fun w => fix_pair al ah w
  have cG := fun w => fix_pair bl bh w
  generalize (min al ah, max al ah) = P at *
  generalize (min bl bh, max bl bh) = Q at *
  have x0 : Bz ((w.alloc (.cells #[.int .i64 al, .int .i64 ah] 23)).alloc (.cells #[.int .i64 bl, .int .i64 bh] 23)) w.heap.size al ah := (Bz.new w al ah 23).keep ((Below.refl _ _).alloc (Nat.le_refl _) _)
  have x1 : Bz ((w.alloc (.cells #[.int .i64 al, .int .i64 ah] 23)).alloc (.cells #[.int .i64 bl, .int .i64 bh] 23)) (w.heap.size + 1) bl bh := by simpa using Bz.new (w.alloc (.cells #[.int .i64 al, .int .i64 ah] 23)) bl bh 23
  have x2 : Below w.heap.size w ((w.alloc (.cells #[.int .i64 al, .int .i64 ah] 23)).alloc (.cells #[.int .i64 bl, .int .i64 bh] 23)) := (by repeat (first | exact Below.refl _ _ | (refine Below.drew ?_) | (refine below_drewN ?_ _) | (refine Below.setCell ?_ (by first | omega | (simp; done) | (simp; omega)) _) | (refine Below.alloc ?_ (by first | omega | (simp; done) | (simp; omega)) _) | (refine Below.trans ?_ (Below.mono (by assumption) (by first | omega | (simp; done) | (simp; omega))))))
  go_enter Try.func3, Try.ntmps3
  go_upto_region 1 with fail
  go_name_world W hW
  rw [hW] at x0 x1 x2
  clear hW
  obtain ⟨N, hN⟩ : ∃ N, N = w.heap.size := ⟨_, rfl⟩
  rw [← hN] at x0 x1 x2 ⊢
  have HN : Hid (N = w.heap.size) := hN
  clear hN
  have HCL : Hid (∀ a b : World, (a.cell? ⟨N, 0, none⟩ = some (.int .i64 al) ∧ a.cell? ⟨N, 1, none⟩ = some (.int .i64 ah) ∧ N < a.heap.size ∧ a.cell? ⟨(N + 1), 0, none⟩ = some (.int .i64 bl) ∧ a.cell? ⟨(N + 1), 1, none⟩ = some (.int .i64 bh) ∧ (N + 1) < a.heap.size ∧ Hid (Below N w a ∧ a.frozen? ⟨N, 0, none⟩ = false ∧ a.frozen? ⟨N, 1, none⟩ = false ∧ a.frozen? ⟨N + 1, 0, none⟩ = false ∧ a.frozen? ⟨N + 1, 1, none⟩ = false)) → Below a.heap.size a b → (b.cell? ⟨N, 0, none⟩ = some (.int .i64 al) ∧ b.cell? ⟨N, 1, none⟩ = some (.int .i64 ah) ∧ N < b.heap.size ∧ b.cell? ⟨(N + 1), 0, none⟩ = some (.int .i64 bl) ∧ b.cell? ⟨(N + 1), 1, none⟩ = some (.int .i64 bh) ∧ (N + 1) < b.heap.size ∧ Hid (Below N w b ∧ b.frozen? ⟨N, 0, none⟩ = false ∧ b.frozen? ⟨N, 1, none⟩ = false ∧ b.frozen? ⟨N + 1, 0, none⟩ = false ∧ b.frozen? ⟨N + 1, 1, none⟩ = false))) := fun a b h hb => by
    have x0 := Bx.keep ⟨h.1, h.2.1⟩ hb
    have x1 := Bx.keep ⟨h.2.2.2.1, h.2.2.2.2.1⟩ hb
    have x0z := Bz.keep ⟨⟨h.1, h.2.1⟩, (h.2.2.2.2.2.2).out.2.1, (h.2.2.2.2.2.2).out.2.2.1⟩ hb
    have x1z := Bz.keep ⟨⟨h.2.2.2.1, h.2.2.2.2.1⟩, (h.2.2.2.2.2.2).out.2.2.2.1, (h.2.2.2.2.2.2).out.2.2.2.2⟩ hb
    exact ⟨x0.1, x0.2, x0.lt, x1.1, x1.2, x1.lt, (h.2.2.2.2.2.2).out.1.trans (hb.mono (Nat.le_of_lt h.2.2.1)), x0z.2.1, x0z.2.2, x1z.2.1, x1z.2.2⟩
  have hS0 : W.cell? ⟨N, 0, none⟩ = some (.int .i64 al) ∧ W.cell? ⟨N, 1, none⟩ = some (.int .i64 ah) ∧ N < W.heap.size ∧ W.cell? ⟨(N + 1), 0, none⟩ = some (.int .i64 bl) ∧ W.cell? ⟨(N + 1), 1, none⟩ = some (.int .i64 bh) ∧ (N + 1) < W.heap.size ∧ Hid (Below N w W ∧ W.frozen? ⟨N, 0, none⟩ = false ∧ W.frozen? ⟨N, 1, none⟩ = false ∧ W.frozen? ⟨N + 1, 0, none⟩ = false ∧ W.frozen? ⟨N + 1, 1, none⟩ = false) := ⟨x0.1.1, x0.1.2, x0.1.lt, x1.1.1, x1.1.2, x1.1.lt, x2, x0.2.1, x0.2.2, x1.2.1, x1.2.2⟩
  clear x0 x1 x2
  refine wp_region_held_drew (S := fun w' => w'.cell? ⟨N, 0, none⟩ = some (.int .i64 al) ∧ w'.cell? ⟨N, 1, none⟩ = some (.int .i64 ah) ∧ N < w'.heap.size ∧ w'.cell? ⟨(N + 1), 0, none⟩ = some (.int .i64 bl) ∧ w'.cell? ⟨(N + 1), 1, none⟩ = some (.int .i64 bh) ∧ (N + 1) < w'.heap.size ∧ Hid (Below N w w' ∧ w'.frozen? ⟨N, 0, none⟩ = false ∧ w'.frozen? ⟨N, 1, none⟩ = false ∧ w'.frozen? ⟨N + 1, 0, none⟩ = false ∧ w'.frozen? ⟨N + 1, 1, none⟩ = false)) (by kernel_rfl) (HCL.out _ _ hS0 ((Below.refl _ _).drew)) (fun hHeld => ?_)
  refine wpAnyH_take (i := 0) (oi := ({ dst := some 12, op := Op.load 23 (Operand.tmp 3), type := 23, pos := "law.go:25", after := #[], guard := none } : Oper)) (v := ?_) rfl (by kernel_rfl) (by kernel_rfl) (by kernel_rfl) (fun _ _ _ h => h) (Or.inl ⟨by rfl, ?_⟩) (by assumption) ?_
  rotate_left
  · (intro wz hSw; (try dsimp only at hSw); go_simp; try with_reducible rfl)
  simp only [Act.put, List.setIfInBounds_toArray, List.set_cons_zero, List.set_cons_succ]
  refine wpAnyH_take (i := 3) (oi := ({ dst := some 15, op := Op.fieldAddr 23 (Operand.tmp 3) 0, type := 0, pos := "law.go:25", after := #[], guard := none } : Oper)) (v := ?_) rfl (by kernel_rfl) (by kernel_rfl) (by kernel_rfl) (fun _ _ _ h => h) (Or.inl ⟨by rfl, ?_⟩) (by assumption) ?_
  rotate_left
  · (intro wz hSw; (try dsimp only at hSw); go_simp; try with_reducible rfl)
  simp only [Act.put, List.setIfInBounds_toArray, List.set_cons_zero, List.set_cons_succ]
  refine wpAnyH_take (i := 4) (oi := ({ dst := some 16, op := Op.load 2 (Operand.tmp 15), type := 2, pos := "law.go:25", after := #[{ on := 3, ground := Ground.data }], guard := none } : Oper)) (v := ?_) rfl (by kernel_rfl) (by kernel_rfl) (by kernel_rfl) (fun _ _ _ h => h) (Or.inl ⟨by rfl, ?_⟩) (by assumption) ?_
  rotate_left
  · (intro wz hSw; (try dsimp only at hSw); go_simp; try with_reducible rfl)
  simp only [Act.put, List.setIfInBounds_toArray, List.set_cons_zero, List.set_cons_succ]
  refine wpAnyH_take (i := 5) (oi := ({ dst := some 17, op := Op.fieldAddr 23 (Operand.tmp 3) 1, type := 0, pos := "law.go:25", after := #[], guard := none } : Oper)) (v := ?_) rfl (by kernel_rfl) (by kernel_rfl) (by kernel_rfl) (fun _ _ _ h => h) (Or.inl ⟨by rfl, ?_⟩) (by assumption) ?_
  rotate_left
  · (intro wz hSw; (try dsimp only at hSw); go_simp; try with_reducible rfl)
  simp only [Act.put, List.setIfInBounds_toArray, List.set_cons_zero, List.set_cons_succ]
  refine wpAnyH_take (i := 6) (oi := ({ dst := some 18, op := Op.load 2 (Operand.tmp 17), type := 2, pos := "law.go:25", after := #[{ on := 5, ground := Ground.data }], guard := none } : Oper)) (v := ?_) rfl (by kernel_rfl) (by kernel_rfl) (by kernel_rfl) (fun _ _ _ h => h) (Or.inl ⟨by rfl, ?_⟩) (by assumption) ?_
  rotate_left
  · (intro wz hSw; (try dsimp only at hSw); go_simp; try with_reducible rfl)
  simp only [Act.put, List.setIfInBounds_toArray, List.set_cons_zero, List.set_cons_succ]
  refine wpAnyH_take (i := 7) (oi := ({ dst := some 19, op := Op.binOp BinOp.leq 2 (Operand.tmp 16) (Operand.tmp 18) 2, type := 4, pos := "law.go:25", after := #[{ on := 4, ground := Ground.data }, { on := 6, ground := Ground.data }], guard := none } : Oper)) (v := ?_) rfl (by kernel_rfl) (by kernel_rfl) (by kernel_rfl) (fun _ _ _ h => h) (Or.inl ⟨by rfl, ?_⟩) (by assumption) ?_
  rotate_left
  · (intro wz hSw; (try dsimp only at hSw); go_simp; try with_reducible rfl)
  simp only [Act.put, List.setIfInBounds_toArray, List.set_cons_zero, List.set_cons_succ]
  refine wpAnyH_ready (rs := [1]) (by kernel_rfl) (by simp) ?_
  refine AllReadyH.cons (o := ({ dst := some 13, op := Op.call { callee := Callee.value (Operand.func 10), args := #[Operand.tmp 12], argTypes := #[23] }, type := 25, pos := "law.go:25", after := #[{ on := 0, ground := Ground.data }], guard := none } : Oper)) rfl (fun K hK => ?_) AllReadyH.nil
  go_simp
  go_at_call 10
  refine (lift (bel2 (to_any _ _ _)) (by assumption) HCL.out).mono ?_
  rintro e v1 ⟨rfl, g1⟩
  refine hK.out _ _ g1 (fun hHeld => ?_)
  clear hK K
  refine wpAnyH_ready (rs := [2]) (by kernel_rfl) (by simp) ?_
  refine AllReadyH.cons (o := ({ dst := some 14, op := Op.call { callee := Callee.value (Operand.func 9), args := #[Operand.tmp 13], argTypes := #[25] }, type := 4, pos := "law.go:25", after := #[{ on := 1, ground := Ground.data }, { on := 1, ground := Ground.chain }], guard := none } : Oper)) rfl (fun K hK => ?_) AllReadyH.nil
  go_simp
  go_at_call 9
  refine (lift (bel1 (right_any _ _ _)) (by assumption) HCL.out).mono ?_
  rintro e v2 ⟨rfl, g2⟩
  refine hK.out _ _ g2 (fun hHeld => ?_)
  clear hK K
  refine wpAnyH_take (i := 8) (oi := ({ dst := some 20, op := Op.binOp BinOp.eql 4 (Operand.tmp 14) (Operand.tmp 19) 4, type := 4, pos := "law.go:25", after := #[{ on := 2, ground := Ground.data }, { on := 7, ground := Ground.data }], guard := none } : Oper)) (v := ?_) rfl (by kernel_rfl) (by kernel_rfl) (by kernel_rfl) (fun _ _ _ h => h) (Or.inl ⟨by rfl, ?_⟩) (by assumption) ?_
  rotate_left
  · (intro wz hSw; (try dsimp only at hSw); go_simp; try with_reducible rfl)
  simp only [Act.put, List.setIfInBounds_toArray, List.set_cons_zero, List.set_cons_succ]
  refine wpAnyH_take (i := 9) (oi := ({ dst := some 7, op := Op.assign (Operand.tmp 20), type := 4, pos := "law.go:25", after := #[{ on := 8, ground := Ground.data }, { on := 2, ground := Ground.chain }, { on := 0, ground := Ground.phase }, { on := 1, ground := Ground.phase }, { on := 2, ground := Ground.phase }, { on := 3, ground := Ground.phase }, { on := 4, ground := Ground.phase }, { on := 5, ground := Ground.phase }, { on := 6, ground := Ground.phase }, { on := 7, ground := Ground.phase }, { on := 8, ground := Ground.phase }], guard := none } : Oper)) (v := ?_) rfl (by kernel_rfl) (by kernel_rfl) (by kernel_rfl) (fun _ _ _ h => h) (Or.inl ⟨by rfl, ?_⟩) (by assumption) ?_
  rotate_left
  · (intro wz hSw; (try dsimp only at hSw); go_simp; try with_reducible rfl)
  simp only [Act.put, List.setIfInBounds_toArray, List.set_cons_zero, List.set_cons_succ]
  refine wpAnyH_done (by kernel_rfl) ?_ _
  clear hS0 HCL g1
  have R : Hid (Bz v2 N al ah ∧ Bz v2 (N + 1) bl bh ∧ Below N w v2) := ⟨⟨⟨g2.1, g2.2.1⟩, (g2.2.2.2.2.2.2).out.2.1, (g2.2.2.2.2.2.2).out.2.2.1⟩, ⟨⟨g2.2.2.2.1, g2.2.2.2.2.1⟩, (g2.2.2.2.2.2.2).out.2.2.2.1, (g2.2.2.2.2.2.2).out.2.2.2.2⟩, (g2.2.2.2.2.2.2).out.1⟩
  clear g2
  go_upto_region 2 with fail
  have HCL : Hid (∀ a b : World, (N + 1 < a.heap.size ∧ Hid (Below N w a)) → Below a.heap.size a b → (N + 1 < b.heap.size ∧ Hid (Below N w b))) := fun a b h hb => ⟨Nat.lt_of_lt_of_le h.1 hb.size, h.2.out.trans (hb.mono (Nat.le_trans (Nat.le_succ _) (Nat.le_of_lt h.1)))⟩
  have HST : Hid (∀ (a : World) (q : Nat) (v u : Value), N ≤ q → (N + 1 < a.heap.size ∧ Hid (Below N w a)) → (N + 1 < ((a.setCell ⟨q, 0, none⟩ v).setCell ⟨q, 1, none⟩ u).heap.size ∧ Hid (Below N w ((a.setCell ⟨q, 0, none⟩ v).setCell ⟨q, 1, none⟩ u)))) := fun a q v u hq h => ⟨by simpa using h.1, (h.2.out.setCell (p := ⟨q, 0, none⟩) hq v).setCell (p := ⟨q, 1, none⟩) hq u⟩
  go_cut [7] (fun v7 wx => v7 = .bool true ∧ Hid (Bz wx N P.1 P.2 ∧ Bz wx (N + 1) Q.1 Q.2 ∧ Below N w wx))
  case first =>
    refine wp_region_held_drew (S := fun w' => N + 1 < w'.heap.size ∧ Hid (Below N w w')) (by kernel_rfl) (HCL.out _ _ ⟨R.out.2.1.1.lt, R.out.2.2⟩ ((Below.refl _ _).drew)) (fun hH0 => ?_)
    have X0 : Bz v2.drew N al ah := (R.out.1).keep ((Below.refl _ _).drew)
    have Y0 : Bz v2.drew (N + 1) bl bh := (R.out.2.1).keep ((Below.refl _ _).drew)
    obtain ⟨w0, hw0⟩ : ∃ w0, w0 = v2.drew := ⟨_, rfl⟩
    rw [← hw0] at hH0 X0 Y0 ⊢
    clear hw0
    refine wpAnyH_ready (rs := [0, 2]) (by kernel_rfl) (by simp) ?_
    refine AllReadyH.cons (o := ({ dst := some 21, op := Op.load 23 (Operand.tmp 3), type := 23, pos := "law.go:26", after := #[], guard := none } : Oper)) rfl (fun K hK => ?_) (AllReadyH.cons (o := ({ dst := some 23, op := Op.load 23 (Operand.tmp 4), type := 23, pos := "law.go:26", after := #[], guard := none } : Oper)) rfl (fun K hK => ?_) AllReadyH.nil)
    · have cX0 := X0.1.1
      have cX1 := X0.1.2
      have cX2 := X0.2.1
      have cX3 := X0.2.2
      have cY0 := Y0.1.1
      have cY1 := Y0.1.2
      have cY2 := Y0.2.1
      have cY3 := Y0.2.2
      go_simp
      refine hK.out _ _ hH0 (fun _ => ?_)
      clear hK K cX0 cX1 cX2 cX3 cY0 cY1 cY2 cY3
      refine wpAnyH_ready (rs := [1, 2]) (by kernel_rfl) (by simp) ?_
      refine AllReadyH.cons (o := ({ dst := some 22, op := Op.call { callee := Callee.value (Operand.func 11), args := #[Operand.tmp 21], argTypes := #[23] }, type := 23, pos := "law.go:26", after := #[{ on := 0, ground := Ground.data }], guard := none } : Oper)) rfl (fun K hK => ?_) (AllReadyH.cons (o := ({ dst := some 23, op := Op.load 23 (Operand.tmp 4), type := 23, pos := "law.go:26", after := #[], guard := none } : Oper)) rfl (fun K hK => ?_) AllReadyH.nil)
      · have cX0 := X0.1.1
        have cX1 := X0.1.2
        have cX2 := X0.2.1
        have cX3 := X0.2.2
        have cY0 := Y0.1.1
        have cY1 := Y0.1.2
        have cY2 := Y0.2.1
        have cY3 := Y0.2.2
        go_simp
        go_at_call 11
        refine (bel2 (cF _)).mono ?_
        rintro e w1 ⟨rfl, hb1⟩
        have X1 := X0.keep hb1
        have Y1 := Y0.keep hb1
        refine hK.out _ _ (HCL.out _ _ hH0 hb1) (fun hH1 => ?_)
        clear hK K cX0 cX1 cX2 cX3 cY0 cY1 cY2 cY3
        refine wpAnyH_ready (rs := [2]) (by kernel_rfl) (by simp) ?_
        refine AllReadyH.cons (o := ({ dst := some 23, op := Op.load 23 (Operand.tmp 4), type := 23, pos := "law.go:26", after := #[], guard := none } : Oper)) rfl (fun K hK => ?_) AllReadyH.nil
        · have cX0 := X1.1.1
          have cX1 := X1.1.2
          have cX2 := X1.2.1
          have cX3 := X1.2.2
          have cY0 := Y1.1.1
          have cY1 := Y1.1.2
          have cY2 := Y1.2.1
          have cY3 := Y1.2.2
          go_simp
          refine hK.out _ _ hH1 (fun _ => ?_)
          clear hK K cX0 cX1 cX2 cX3 cY0 cY1 cY2 cY3
          refine wpAnyH_ready (rs := [3]) (by kernel_rfl) (by simp) ?_
          refine AllReadyH.cons (o := ({ dst := some 24, op := Op.call { callee := Callee.value (Operand.func 11), args := #[Operand.tmp 23], argTypes := #[23] }, type := 23, pos := "law.go:26", after := #[{ on := 2, ground := Ground.data }, { on := 1, ground := Ground.chain }], guard := none } : Oper)) rfl (fun K hK => ?_) AllReadyH.nil
          · have cX0 := X1.1.1
            have cX1 := X1.1.2
            have cX2 := X1.2.1
            have cX3 := X1.2.2
            have cY0 := Y1.1.1
            have cY1 := Y1.1.2
            have cY2 := Y1.2.1
            have cY3 := Y1.2.2
            go_simp
            go_at_call 11
            refine (bel2 (cG _)).mono ?_
            rintro e w2 ⟨rfl, hb2⟩
            have X2 := X1.keep hb2
            have Y2 := Y1.keep hb2
            refine hK.out _ _ (HCL.out _ _ hH1 hb2) (fun hH2 => ?_)
            clear hK K cX0 cX1 cX2 cX3 cY0 cY1 cY2 cY3
            refine wpAnyH_ready (rs := [4]) (by kernel_rfl) (by simp) ?_
            refine AllReadyH.cons (o := ({ dst := none, op := Op.store 23 (Operand.tmp 3) (Operand.tmp 22), type := 0, pos := "law.go:26", after := #[{ on := 1, ground := Ground.data }, { on := 3, ground := Ground.chain }, { on := 0, ground := Ground.phase }, { on := 1, ground := Ground.phase }, { on := 2, ground := Ground.textOnly Departure.lateStores }, { on := 3, ground := Ground.textOnly Departure.lateStoresUnsure }], guard := none } : Oper)) rfl (fun K hK => ?_) AllReadyH.nil
            · have cX0 := X2.1.1
              have cX1 := X2.1.2
              have cX2 := X2.2.1
              have cX3 := X2.2.2
              have cY0 := Y2.1.1
              have cY1 := Y2.1.2
              have cY2 := Y2.2.1
              have cY3 := Y2.2.2
              go_simp
              have X3 := X2.wrote (x' := P.1) (y' := P.2)
              have Y3 := Y2.set' (q := N) (by omega) (.int .i64 P.1) (.int .i64 P.2)
              refine hK.out _ _ (HST.out _ (N) _ _ (by omega) hH2) (fun hH3 => ?_)
              clear hK K cX0 cX1 cX2 cX3 cY0 cY1 cY2 cY3
              obtain ⟨w3, hw3⟩ : ∃ w3, w3 = ((w2.setCell ⟨N, 0, none⟩ (.int .i64 P.1)).setCell ⟨N, 1, none⟩ (.int .i64 P.2)) := ⟨_, rfl⟩
              rw [← hw3] at hH3 X3 Y3 ⊢
              clear hw3
              refine wpAnyH_ready (rs := [5]) (by kernel_rfl) (by simp) ?_
              refine AllReadyH.cons (o := ({ dst := none, op := Op.store 23 (Operand.tmp 4) (Operand.tmp 24), type := 0, pos := "law.go:26", after := #[{ on := 3, ground := Ground.data }, { on := 4, ground := Ground.chain }, { on := 0, ground := Ground.phase }, { on := 1, ground := Ground.phase }, { on := 2, ground := Ground.phase }, { on := 3, ground := Ground.phase }, { on := 4, ground := Ground.phase }], guard := none } : Oper)) rfl (fun K hK => ?_) AllReadyH.nil
              · have cX0 := X3.1.1
                have cX1 := X3.1.2
                have cX2 := X3.2.1
                have cX3 := X3.2.2
                have cY0 := Y3.1.1
                have cY1 := Y3.1.2
                have cY2 := Y3.2.1
                have cY3 := Y3.2.2
                go_simp
                have Y4 := Y3.wrote (x' := Q.1) (y' := Q.2)
                have X4 := X3.set' (q := (N + 1)) (by omega) (.int .i64 Q.1) (.int .i64 Q.2)
                refine hK.out _ _ (HST.out _ ((N + 1)) _ _ (by omega) hH3) (fun hH4 => ?_)
                clear hK K cX0 cX1 cX2 cX3 cY0 cY1 cY2 cY3
                obtain ⟨w4, hw4⟩ : ∃ w4, w4 = ((w3.setCell ⟨(N + 1), 0, none⟩ (.int .i64 Q.1)).setCell ⟨(N + 1), 1, none⟩ (.int .i64 Q.2)) := ⟨_, rfl⟩
                rw [← hw4] at hH4 X4 Y4 ⊢
                clear hw4
                refine wpAnyH_done (by kernel_rfl) ?_ _
                go_wp2
                go_meet
                case rel => exact ⟨rfl, X4, Y4, hH4.2.out⟩
      · have cX0 := X0.1.1
        have cX1 := X0.1.2
        have cX2 := X0.2.1
        have cX3 := X0.2.2
        have cY0 := Y0.1.1
        have cY1 := Y0.1.2
        have cY2 := Y0.2.1
        have cY3 := Y0.2.2
        go_simp
        refine hK.out _ _ hH0 (fun _ => ?_)
        clear hK K cX0 cX1 cX2 cX3 cY0 cY1 cY2 cY3
        refine wpAnyH_ready (rs := [1]) (by kernel_rfl) (by simp) ?_
        refine AllReadyH.cons (o := ({ dst := some 22, op := Op.call { callee := Callee.value (Operand.func 11), args := #[Operand.tmp 21], argTypes := #[23] }, type := 23, pos := "law.go:26", after := #[{ on := 0, ground := Ground.data }], guard := none } : Oper)) rfl (fun K hK => ?_) AllReadyH.nil
        · have cX0 := X0.1.1
          have cX1 := X0.1.2
          have cX2 := X0.2.1
          have cX3 := X0.2.2
          have cY0 := Y0.1.1
          have cY1 := Y0.1.2
          have cY2 := Y0.2.1
          have cY3 := Y0.2.2
          go_simp
          go_at_call 11
          refine (bel2 (cF _)).mono ?_
          rintro e w1 ⟨rfl, hb1⟩
          have X1 := X0.keep hb1
          have Y1 := Y0.keep hb1
          refine hK.out _ _ (HCL.out _ _ hH0 hb1) (fun hH1 => ?_)
          clear hK K cX0 cX1 cX2 cX3 cY0 cY1 cY2 cY3
          refine wpAnyH_ready (rs := [3]) (by kernel_rfl) (by simp) ?_
          refine AllReadyH.cons (o := ({ dst := some 24, op := Op.call { callee := Callee.value (Operand.func 11), args := #[Operand.tmp 23], argTypes := #[23] }, type := 23, pos := "law.go:26", after := #[{ on := 2, ground := Ground.data }, { on := 1, ground := Ground.chain }], guard := none } : Oper)) rfl (fun K hK => ?_) AllReadyH.nil
          · have cX0 := X1.1.1
            have cX1 := X1.1.2
            have cX2 := X1.2.1
            have cX3 := X1.2.2
            have cY0 := Y1.1.1
            have cY1 := Y1.1.2
            have cY2 := Y1.2.1
            have cY3 := Y1.2.2
            go_simp
            go_at_call 11
            refine (bel2 (cG _)).mono ?_
            rintro e w2 ⟨rfl, hb2⟩
            have X2 := X1.keep hb2
            have Y2 := Y1.keep hb2
            refine hK.out _ _ (HCL.out _ _ hH1 hb2) (fun hH2 => ?_)
            clear hK K cX0 cX1 cX2 cX3 cY0 cY1 cY2 cY3
            refine wpAnyH_ready (rs := [4]) (by kernel_rfl) (by simp) ?_
            refine AllReadyH.cons (o := ({ dst := none, op := Op.store 23 (Operand.tmp 3) (Operand.tmp 22), type := 0, pos := "law.go:26", after := #[{ on := 1, ground := Ground.data }, { on := 3, ground := Ground.chain }, { on := 0, ground := Ground.phase }, { on := 1, ground := Ground.phase }, { on := 2, ground := Ground.textOnly Departure.lateStores }, { on := 3, ground := Ground.textOnly Departure.lateStoresUnsure }], guard := none } : Oper)) rfl (fun K hK => ?_) AllReadyH.nil
            · have cX0 := X2.1.1
              have cX1 := X2.1.2
              have cX2 := X2.2.1
              have cX3 := X2.2.2
              have cY0 := Y2.1.1
              have cY1 := Y2.1.2
              have cY2 := Y2.2.1
              have cY3 := Y2.2.2
              go_simp
              have X3 := X2.wrote (x' := P.1) (y' := P.2)
              have Y3 := Y2.set' (q := N) (by omega) (.int .i64 P.1) (.int .i64 P.2)
              refine hK.out _ _ (HST.out _ (N) _ _ (by omega) hH2) (fun hH3 => ?_)
              clear hK K cX0 cX1 cX2 cX3 cY0 cY1 cY2 cY3
              obtain ⟨w3, hw3⟩ : ∃ w3, w3 = ((w2.setCell ⟨N, 0, none⟩ (.int .i64 P.1)).setCell ⟨N, 1, none⟩ (.int .i64 P.2)) := ⟨_, rfl⟩
              rw [← hw3] at hH3 X3 Y3 ⊢
              clear hw3
              refine wpAnyH_ready (rs := [5]) (by kernel_rfl) (by simp) ?_
              refine AllReadyH.cons (o := ({ dst := none, op := Op.store 23 (Operand.tmp 4) (Operand.tmp 24), type := 0, pos := "law.go:26", after := #[{ on := 3, ground := Ground.data }, { on := 4, ground := Ground.chain }, { on := 0, ground := Ground.phase }, { on := 1, ground := Ground.phase }, { on := 2, ground := Ground.phase }, { on := 3, ground := Ground.phase }, { on := 4, ground := Ground.phase }], guard := none } : Oper)) rfl (fun K hK => ?_) AllReadyH.nil
              · have cX0 := X3.1.1
                have cX1 := X3.1.2
                have cX2 := X3.2.1
                have cX3 := X3.2.2
                have cY0 := Y3.1.1
                have cY1 := Y3.1.2
                have cY2 := Y3.2.1
                have cY3 := Y3.2.2
                go_simp
                have Y4 := Y3.wrote (x' := Q.1) (y' := Q.2)
                have X4 := X3.set' (q := (N + 1)) (by omega) (.int .i64 Q.1) (.int .i64 Q.2)
                refine hK.out _ _ (HST.out _ ((N + 1)) _ _ (by omega) hH3) (fun hH4 => ?_)
                clear hK K cX0 cX1 cX2 cX3 cY0 cY1 cY2 cY3
                obtain ⟨w4, hw4⟩ : ∃ w4, w4 = ((w3.setCell ⟨(N + 1), 0, none⟩ (.int .i64 Q.1)).setCell ⟨(N + 1), 1, none⟩ (.int .i64 Q.2)) := ⟨_, rfl⟩
                rw [← hw4] at hH4 X4 Y4 ⊢
                clear hw4
                refine wpAnyH_done (by kernel_rfl) ?_ _
                go_wp2
                go_meet
                case rel => exact ⟨rfl, X4, Y4, hH4.2.out⟩
    · have cX0 := X0.1.1
      have cX1 := X0.1.2
      have cX2 := X0.2.1
      have cX3 := X0.2.2
      have cY0 := Y0.1.1
      have cY1 := Y0.1.2
      have cY2 := Y0.2.1
      have cY3 := Y0.2.2
      go_simp
      refine hK.out _ _ hH0 (fun _ => ?_)
      clear hK K cX0 cX1 cX2 cX3 cY0 cY1 cY2 cY3
      refine wpAnyH_ready (rs := [0]) (by kernel_rfl) (by simp) ?_
      refine AllReadyH.cons (o := ({ dst := some 21, op := Op.load 23 (Operand.tmp 3), type := 23, pos := "law.go:26", after := #[], guard := none } : Oper)) rfl (fun K hK => ?_) AllReadyH.nil
      · have cX0 := X0.1.1
        have cX1 := X0.1.2
        have cX2 := X0.2.1
        have cX3 := X0.2.2
        have cY0 := Y0.1.1
        have cY1 := Y0.1.2
        have cY2 := Y0.2.1
        have cY3 := Y0.2.2
        go_simp
        refine hK.out _ _ hH0 (fun _ => ?_)
        clear hK K cX0 cX1 cX2 cX3 cY0 cY1 cY2 cY3
        refine wpAnyH_ready (rs := [1]) (by kernel_rfl) (by simp) ?_
        refine AllReadyH.cons (o := ({ dst := some 22, op := Op.call { callee := Callee.value (Operand.func 11), args := #[Operand.tmp 21], argTypes := #[23] }, type := 23, pos := "law.go:26", after := #[{ on := 0, ground := Ground.data }], guard := none } : Oper)) rfl (fun K hK => ?_) AllReadyH.nil
        · have cX0 := X0.1.1
          have cX1 := X0.1.2
          have cX2 := X0.2.1
          have cX3 := X0.2.2
          have cY0 := Y0.1.1
          have cY1 := Y0.1.2
          have cY2 := Y0.2.1
          have cY3 := Y0.2.2
          go_simp
          go_at_call 11
          refine (bel2 (cF _)).mono ?_
          rintro e w1 ⟨rfl, hb1⟩
          have X1 := X0.keep hb1
          have Y1 := Y0.keep hb1
          refine hK.out _ _ (HCL.out _ _ hH0 hb1) (fun hH1 => ?_)
          clear hK K cX0 cX1 cX2 cX3 cY0 cY1 cY2 cY3
          refine wpAnyH_ready (rs := [3]) (by kernel_rfl) (by simp) ?_
          refine AllReadyH.cons (o := ({ dst := some 24, op := Op.call { callee := Callee.value (Operand.func 11), args := #[Operand.tmp 23], argTypes := #[23] }, type := 23, pos := "law.go:26", after := #[{ on := 2, ground := Ground.data }, { on := 1, ground := Ground.chain }], guard := none } : Oper)) rfl (fun K hK => ?_) AllReadyH.nil
          · have cX0 := X1.1.1
            have cX1 := X1.1.2
            have cX2 := X1.2.1
            have cX3 := X1.2.2
            have cY0 := Y1.1.1
            have cY1 := Y1.1.2
            have cY2 := Y1.2.1
            have cY3 := Y1.2.2
            go_simp
            go_at_call 11
            refine (bel2 (cG _)).mono ?_
            rintro e w2 ⟨rfl, hb2⟩
            have X2 := X1.keep hb2
            have Y2 := Y1.keep hb2
            refine hK.out _ _ (HCL.out _ _ hH1 hb2) (fun hH2 => ?_)
            clear hK K cX0 cX1 cX2 cX3 cY0 cY1 cY2 cY3
            refine wpAnyH_ready (rs := [4]) (by kernel_rfl) (by simp) ?_
            refine AllReadyH.cons (o := ({ dst := none, op := Op.store 23 (Operand.tmp 3) (Operand.tmp 22), type := 0, pos := "law.go:26", after := #[{ on := 1, ground := Ground.data }, { on := 3, ground := Ground.chain }, { on := 0, ground := Ground.phase }, { on := 1, ground := Ground.phase }, { on := 2, ground := Ground.textOnly Departure.lateStores }, { on := 3, ground := Ground.textOnly Departure.lateStoresUnsure }], guard := none } : Oper)) rfl (fun K hK => ?_) AllReadyH.nil
            · have cX0 := X2.1.1
              have cX1 := X2.1.2
              have cX2 := X2.2.1
              have cX3 := X2.2.2
              have cY0 := Y2.1.1
              have cY1 := Y2.1.2
              have cY2 := Y2.2.1
              have cY3 := Y2.2.2
              go_simp
              have X3 := X2.wrote (x' := P.1) (y' := P.2)
              have Y3 := Y2.set' (q := N) (by omega) (.int .i64 P.1) (.int .i64 P.2)
              refine hK.out _ _ (HST.out _ (N) _ _ (by omega) hH2) (fun hH3 => ?_)
              clear hK K cX0 cX1 cX2 cX3 cY0 cY1 cY2 cY3
              obtain ⟨w3, hw3⟩ : ∃ w3, w3 = ((w2.setCell ⟨N, 0, none⟩ (.int .i64 P.1)).setCell ⟨N, 1, none⟩ (.int .i64 P.2)) := ⟨_, rfl⟩
              rw [← hw3] at hH3 X3 Y3 ⊢
              clear hw3
              refine wpAnyH_ready (rs := [5]) (by kernel_rfl) (by simp) ?_
              refine AllReadyH.cons (o := ({ dst := none, op := Op.store 23 (Operand.tmp 4) (Operand.tmp 24), type := 0, pos := "law.go:26", after := #[{ on := 3, ground := Ground.data }, { on := 4, ground := Ground.chain }, { on := 0, ground := Ground.phase }, { on := 1, ground := Ground.phase }, { on := 2, ground := Ground.phase }, { on := 3, ground := Ground.phase }, { on := 4, ground := Ground.phase }], guard := none } : Oper)) rfl (fun K hK => ?_) AllReadyH.nil
              · have cX0 := X3.1.1
                have cX1 := X3.1.2
                have cX2 := X3.2.1
                have cX3 := X3.2.2
                have cY0 := Y3.1.1
                have cY1 := Y3.1.2
                have cY2 := Y3.2.1
                have cY3 := Y3.2.2
                go_simp
                have Y4 := Y3.wrote (x' := Q.1) (y' := Q.2)
                have X4 := X3.set' (q := (N + 1)) (by omega) (.int .i64 Q.1) (.int .i64 Q.2)
                refine hK.out _ _ (HST.out _ ((N + 1)) _ _ (by omega) hH3) (fun hH4 => ?_)
                clear hK K cX0 cX1 cX2 cX3 cY0 cY1 cY2 cY3
                obtain ⟨w4, hw4⟩ : ∃ w4, w4 = ((w3.setCell ⟨(N + 1), 0, none⟩ (.int .i64 Q.1)).setCell ⟨(N + 1), 1, none⟩ (.int .i64 Q.2)) := ⟨_, rfl⟩
                rw [← hw4] at hH4 X4 Y4 ⊢
                clear hw4
                refine wpAnyH_done (by kernel_rfl) ?_ _
                go_wp2
                go_meet
                case rel => exact ⟨rfl, X4, Y4, hH4.2.out⟩
  case rest =>
    obtain ⟨rfl, HH⟩ := hcut
    clear R HCL HST cF cG
    have HCL : Hid (∀ a b : World, (a.cell? ⟨N, 0, none⟩ = some (.int .i64 P.1) ∧ a.cell? ⟨N, 1, none⟩ = some (.int .i64 P.2) ∧ N < a.heap.size ∧ a.cell? ⟨(N + 1), 0, none⟩ = some (.int .i64 Q.1) ∧ a.cell? ⟨(N + 1), 1, none⟩ = some (.int .i64 Q.2) ∧ (N + 1) < a.heap.size ∧ Hid (Below N w a)) → Below a.heap.size a b → (b.cell? ⟨N, 0, none⟩ = some (.int .i64 P.1) ∧ b.cell? ⟨N, 1, none⟩ = some (.int .i64 P.2) ∧ N < b.heap.size ∧ b.cell? ⟨(N + 1), 0, none⟩ = some (.int .i64 Q.1) ∧ b.cell? ⟨(N + 1), 1, none⟩ = some (.int .i64 Q.2) ∧ (N + 1) < b.heap.size ∧ Hid (Below N w b))) := fun a b h hb => by
      have x0 := Bx.keep ⟨h.1, h.2.1⟩ hb
      have x1 := Bx.keep ⟨h.2.2.2.1, h.2.2.2.2.1⟩ hb
      exact ⟨x0.1, x0.2, x0.lt, x1.1, x1.2, x1.lt, (h.2.2.2.2.2.2).out.trans (hb.mono (Nat.le_of_lt h.2.2.1))⟩
    have HST : Hid (∀ (a : World) (q : Nat) (v u : Value), N + 1 < q → (a.cell? ⟨N, 0, none⟩ = some (.int .i64 P.1) ∧ a.cell? ⟨N, 1, none⟩ = some (.int .i64 P.2) ∧ N < a.heap.size ∧ a.cell? ⟨(N + 1), 0, none⟩ = some (.int .i64 Q.1) ∧ a.cell? ⟨(N + 1), 1, none⟩ = some (.int .i64 Q.2) ∧ (N + 1) < a.heap.size ∧ Hid (Below N w a)) → (((a.setCell ⟨q, 0, none⟩ v).setCell ⟨q, 1, none⟩ u).cell? ⟨N, 0, none⟩ = some (.int .i64 P.1) ∧ ((a.setCell ⟨q, 0, none⟩ v).setCell ⟨q, 1, none⟩ u).cell? ⟨N, 1, none⟩ = some (.int .i64 P.2) ∧ N < ((a.setCell ⟨q, 0, none⟩ v).setCell ⟨q, 1, none⟩ u).heap.size ∧ ((a.setCell ⟨q, 0, none⟩ v).setCell ⟨q, 1, none⟩ u).cell? ⟨(N + 1), 0, none⟩ = some (.int .i64 Q.1) ∧ ((a.setCell ⟨q, 0, none⟩ v).setCell ⟨q, 1, none⟩ u).cell? ⟨(N + 1), 1, none⟩ = some (.int .i64 Q.2) ∧ (N + 1) < ((a.setCell ⟨q, 0, none⟩ v).setCell ⟨q, 1, none⟩ u).heap.size ∧ Hid (Below N w ((a.setCell ⟨q, 0, none⟩ v).setCell ⟨q, 1, none⟩ u)))) := fun a q v u hq h => by
      have x0 := Bx.set' (q := q) (p := N) (by omega) ⟨h.1, h.2.1⟩ v u
      have x1 := Bx.set' (q := q) (p := (N + 1)) (by omega) ⟨h.2.2.2.1, h.2.2.2.2.1⟩ v u
      exact ⟨x0.1, x0.2, x0.lt, x1.1, x1.2, x1.lt, ((h.2.2.2.2.2.2).out.setCell (p := ⟨q, 0, none⟩) (show N ≤ q by omega) v).setCell (p := ⟨q, 1, none⟩) (show N ≤ q by omega) u⟩
    have hS0 : wc.cell? ⟨N, 0, none⟩ = some (.int .i64 P.1) ∧ wc.cell? ⟨N, 1, none⟩ = some (.int .i64 P.2) ∧ N < wc.heap.size ∧ wc.cell? ⟨(N + 1), 0, none⟩ = some (.int .i64 Q.1) ∧ wc.cell? ⟨(N + 1), 1, none⟩ = some (.int .i64 Q.2) ∧ (N + 1) < wc.heap.size ∧ Hid (Below N w wc) := ⟨HH.out.1.1.1, HH.out.1.1.2, HH.out.1.1.lt, HH.out.2.1.1.1, HH.out.2.1.1.2, HH.out.2.1.1.lt, HH.out.2.2⟩
    clear HH
    go_upto_region 3 with fail
    go_cut [8, 9] (fun v8 v9 wy => ∃ p, v8 = .pointer (some ⟨p, 0, none⟩) ∧ v9 = .bool (meetP P Q).2 ∧ Hid (Bx wy N P.1 P.2 ∧ Bx wy (N + 1) Q.1 Q.2 ∧ Bx wy p (meetP P Q).1.1 (meetP P Q).1.2 ∧ Below N w wy))
    case first =>
      refine wp_region_held_drew (S := fun w' => w'.cell? ⟨N, 0, none⟩ = some (.int .i64 P.1) ∧ w'.cell? ⟨N, 1, none⟩ = some (.int .i64 P.2) ∧ N < w'.heap.size ∧ w'.cell? ⟨(N + 1), 0, none⟩ = some (.int .i64 Q.1) ∧ w'.cell? ⟨(N + 1), 1, none⟩ = some (.int .i64 Q.2) ∧ (N + 1) < w'.heap.size ∧ Hid (Below N w w')) (by kernel_rfl) (HCL.out _ _ hS0 ((Below.refl _ _).drew)) (fun hH0 => ?_)
      obtain ⟨w0, hw0⟩ : ∃ w0, w0 = wc.drew := ⟨_, rfl⟩
      rw [← hw0] at hH0 ⊢
      clear hw0
      refine wpAnyH_take (i := 0) (oi := ({ dst := some 26, op := Op.load 23 (Operand.tmp 3), type := 23, pos := "law.go:27", after := #[], guard := none } : Oper)) (v := ?_) rfl (by kernel_rfl) (by kernel_rfl) (by kernel_rfl) (fun _ _ _ h => h) (Or.inl ⟨by rfl, ?_⟩) (by assumption) ?_
      rotate_left
      · (intro wz hSw; (try dsimp only at hSw); go_simp; try with_reducible rfl)
      simp only [Act.put, List.setIfInBounds_toArray, List.set_cons_zero, List.set_cons_succ]
      refine wpAnyH_take (i := 2) (oi := ({ dst := some 28, op := Op.load 23 (Operand.tmp 4), type := 23, pos := "law.go:27", after := #[], guard := none } : Oper)) (v := ?_) rfl (by kernel_rfl) (by kernel_rfl) (by kernel_rfl) (fun _ _ _ h => h) (Or.inl ⟨by rfl, ?_⟩) (by assumption) ?_
      rotate_left
      · (intro wz hSw; (try dsimp only at hSw); go_simp; try with_reducible rfl)
      simp only [Act.put, List.setIfInBounds_toArray, List.set_cons_zero, List.set_cons_succ]
      refine wpAnyH_ready (rs := [1, 8]) (by kernel_rfl) (by simp) ?_
      refine AllReadyH.cons (o := ({ dst := some 27, op := Op.call { callee := Callee.value (Operand.func 10), args := #[Operand.tmp 26], argTypes := #[23] }, type := 25, pos := "law.go:27", after := #[{ on := 0, ground := Ground.data }], guard := none } : Oper)) rfl (fun K hK => ?_) (AllReadyH.cons (o := ({ dst := some 8, op := Op.alloc 25, type := 0, pos := "law.go:27", after := #[], guard := none } : Oper)) rfl (fun K hK => ?_) AllReadyH.nil)
      · go_simp
        go_at_call 10
        refine (bel2 (to_any _ _ _)).mono ?_
        rintro e w1 ⟨rfl, hb1⟩
        refine hK.out _ _ (HCL.out _ _ hH0 hb1) (fun hH1 => ?_)
        clear hK K
        refine wpAnyH_ready (rs := [3, 8]) (by kernel_rfl) (by simp) ?_
        refine AllReadyH.cons (o := ({ dst := some 29, op := Op.call { callee := Callee.value (Operand.func 10), args := #[Operand.tmp 28], argTypes := #[23] }, type := 25, pos := "law.go:27", after := #[{ on := 2, ground := Ground.data }, { on := 1, ground := Ground.chain }], guard := none } : Oper)) rfl (fun K hK => ?_) (AllReadyH.cons (o := ({ dst := some 8, op := Op.alloc 25, type := 0, pos := "law.go:27", after := #[], guard := none } : Oper)) rfl (fun K hK => ?_) AllReadyH.nil)
        · go_simp
          go_at_call 10
          refine (bel2 (to_any _ _ _)).mono ?_
          rintro e w2 ⟨rfl, hb2⟩
          refine hK.out _ _ (HCL.out _ _ hH1 hb2) (fun hH2 => ?_)
          clear hK K
          refine wpAnyH_ready (rs := [4, 8]) (by kernel_rfl) (by simp) ?_
          refine AllReadyH.cons (o := ({ dst := some 30, op := Op.call { callee := Callee.value (Operand.func 12), args := #[Operand.tmp 27, Operand.tmp 29], argTypes := #[25, 25] }, type := 28, pos := "law.go:27", after := #[{ on := 1, ground := Ground.data }, { on := 3, ground := Ground.data }, { on := 3, ground := Ground.chain }], guard := none } : Oper)) rfl (fun K hK => ?_) (AllReadyH.cons (o := ({ dst := some 8, op := Op.alloc 25, type := 0, pos := "law.go:27", after := #[], guard := none } : Oper)) rfl (fun K hK => ?_) AllReadyH.nil)
          · go_simp
            go_at_call 12
            refine (bel5 (meet_any P Q _)).mono ?_
            rintro e w3 ⟨rfl, hb3⟩
            refine hK.out _ _ (HCL.out _ _ hH2 hb3) (fun hH3 => ?_)
            clear hK K
            refine wpAnyH_take (i := 5) (oi := ({ dst := some 25, op := Op.move (Operand.tmp 30), type := 28, pos := "law.go:27", after := #[{ on := 4, ground := Ground.data }], guard := none } : Oper)) (v := ?_) rfl (by kernel_rfl) (by kernel_rfl) (by kernel_rfl) (fun _ _ _ h => h) (Or.inl ⟨by rfl, ?_⟩) (by assumption) ?_
            rotate_left
            · (intro wz hSw; (try dsimp only at hSw); go_simp; try with_reducible rfl)
            simp only [Act.put, List.setIfInBounds_toArray, List.set_cons_zero, List.set_cons_succ]
            refine wpAnyH_take (i := 6) (oi := ({ dst := some 31, op := Op.extract (Operand.tmp 25) 0, type := 25, pos := "law.go:27", after := #[{ on := 5, ground := Ground.data }], guard := none } : Oper)) (v := ?_) rfl (by kernel_rfl) (by kernel_rfl) (by kernel_rfl) (fun _ _ _ h => h) (Or.inl ⟨by rfl, ?_⟩) (by assumption) ?_
            rotate_left
            · (intro wz hSw; (try dsimp only at hSw); go_simp; try with_reducible rfl)
            simp only [Act.put, List.setIfInBounds_toArray, List.set_cons_zero, List.set_cons_succ]
            refine wpAnyH_take (i := 7) (oi := ({ dst := some 32, op := Op.extract (Operand.tmp 25) 1, type := 4, pos := "law.go:27", after := #[{ on := 5, ground := Ground.data }, { on := 9, ground := Ground.gcOnly Departure.lateStores }], guard := none } : Oper)) (v := ?_) rfl (by kernel_rfl) (by kernel_rfl) (by kernel_rfl) (fun _ _ _ h => h) (Or.inl ⟨by rfl, ?_⟩) (by assumption) ?_
            rotate_left
            · (intro wz hSw; (try dsimp only at hSw); go_simp; try with_reducible rfl)
            simp only [Act.put, List.setIfInBounds_toArray, List.set_cons_zero, List.set_cons_succ]
            refine wpAnyH_ready (rs := [8]) (by kernel_rfl) (by simp) ?_
            refine AllReadyH.cons (o := ({ dst := some 8, op := Op.alloc 25, type := 0, pos := "law.go:27", after := #[], guard := none } : Oper)) rfl (fun K hK => ?_) AllReadyH.nil
            · go_simp
              have hb4 : Below w3.heap.size w3 (w3.alloc (.cells #[.int .i64 0, .int .i64 0] 25)) := (Below.refl _ _).alloc (Nat.le_refl _) _
              have M4 := Bz.new w3 0 0 25
              have neM : N + 1 < w3.heap.size := hH3.2.2.2.2.2.1
              refine hK.out _ _ (HCL.out _ _ hH3 hb4) (fun hH4 => ?_)
              clear hK K
              obtain ⟨w4, hw4⟩ : ∃ w4, w4 = (w3.alloc (.cells #[.int .i64 0, .int .i64 0] 25)) := ⟨_, rfl⟩
              rw [← hw4] at hH4 M4 ⊢
              clear hw4
              generalize w3.heap.size = kM at *
              refine wpAnyH_ready (rs := [9]) (by kernel_rfl) (by simp) ?_
              refine AllReadyH.cons (o := ({ dst := none, op := Op.store 25 (Operand.tmp 8) (Operand.tmp 31), type := 0, pos := "law.go:27", after := #[{ on := 8, ground := Ground.data }, { on := 6, ground := Ground.data }, { on := 4, ground := Ground.chain }, { on := 0, ground := Ground.phase }, { on := 1, ground := Ground.phase }, { on := 2, ground := Ground.phase }, { on := 3, ground := Ground.phase }, { on := 4, ground := Ground.phase }, { on := 5, ground := Ground.phase }, { on := 6, ground := Ground.phase }, { on := 7, ground := Ground.textOnly Departure.lateStores }, { on := 8, ground := Ground.phase }], guard := none } : Oper)) rfl (fun K hK => ?_) AllReadyH.nil
              · have c0 := M4.1.1
                have c1 := M4.1.2
                have c2 := M4.2.1
                have c3 := M4.2.2
                go_simp
                have M5 := M4.wrote (x' := (meetP P Q).1.1) (y' := (meetP P Q).1.2)
                refine hK.out _ _ (HST.out _ kM _ _ (by omega) hH4) (fun hH5 => ?_)
                clear hK K c0 c1 c2 c3
                obtain ⟨w5, hw5⟩ : ∃ w5, w5 = ((w4.setCell ⟨kM, 0, none⟩ (.int .i64 (meetP P Q).1.1)).setCell ⟨kM, 1, none⟩ (.int .i64 (meetP P Q).1.2)) := ⟨_, rfl⟩
                rw [← hw5] at hH5 M5 ⊢
                clear hw5
                refine wpAnyH_take (i := 10) (oi := ({ dst := some 9, op := Op.assign (Operand.tmp 32), type := 4, pos := "law.go:27", after := #[{ on := 7, ground := Ground.data }, { on := 9, ground := Ground.chain }, { on := 0, ground := Ground.phase }, { on := 1, ground := Ground.phase }, { on := 2, ground := Ground.phase }, { on := 3, ground := Ground.phase }, { on := 4, ground := Ground.phase }, { on := 5, ground := Ground.phase }, { on := 6, ground := Ground.phase }, { on := 7, ground := Ground.phase }, { on := 8, ground := Ground.phase }, { on := 9, ground := Ground.phase }], guard := none } : Oper)) (v := ?_) rfl (by kernel_rfl) (by kernel_rfl) (by kernel_rfl) (fun _ _ _ h => h) (Or.inl ⟨by rfl, ?_⟩) (by assumption) ?_
                rotate_left
                · (intro wz hSw; (try dsimp only at hSw); go_simp; try with_reducible rfl)
                simp only [Act.put, List.setIfInBounds_toArray, List.set_cons_zero, List.set_cons_succ]
                refine wpAnyH_done (by kernel_rfl) ?_ _
                go_wp2
                go_meet
                case rel => exact ⟨_, rfl, rfl, ⟨hH5.1, hH5.2.1⟩, ⟨hH5.2.2.2.1, hH5.2.2.2.2.1⟩, M5.1, hH5.2.2.2.2.2.2.out⟩
          · go_simp
            have hb3 : Below w2.heap.size w2 (w2.alloc (.cells #[.int .i64 0, .int .i64 0] 25)) := (Below.refl _ _).alloc (Nat.le_refl _) _
            have M3 := Bz.new w2 0 0 25
            have neM : N + 1 < w2.heap.size := hH2.2.2.2.2.2.1
            refine hK.out _ _ (HCL.out _ _ hH2 hb3) (fun hH3 => ?_)
            clear hK K
            obtain ⟨w3, hw3⟩ : ∃ w3, w3 = (w2.alloc (.cells #[.int .i64 0, .int .i64 0] 25)) := ⟨_, rfl⟩
            rw [← hw3] at hH3 M3 ⊢
            clear hw3
            generalize w2.heap.size = kM at *
            refine wpAnyH_ready (rs := [4]) (by kernel_rfl) (by simp) ?_
            refine AllReadyH.cons (o := ({ dst := some 30, op := Op.call { callee := Callee.value (Operand.func 12), args := #[Operand.tmp 27, Operand.tmp 29], argTypes := #[25, 25] }, type := 28, pos := "law.go:27", after := #[{ on := 1, ground := Ground.data }, { on := 3, ground := Ground.data }, { on := 3, ground := Ground.chain }], guard := none } : Oper)) rfl (fun K hK => ?_) AllReadyH.nil
            · go_simp
              go_at_call 12
              refine (bel5 (meet_any P Q _)).mono ?_
              rintro e w4 ⟨rfl, hb4⟩
              have M4 := M3.keep hb4
              refine hK.out _ _ (HCL.out _ _ hH3 hb4) (fun hH4 => ?_)
              clear hK K
              refine wpAnyH_take (i := 5) (oi := ({ dst := some 25, op := Op.move (Operand.tmp 30), type := 28, pos := "law.go:27", after := #[{ on := 4, ground := Ground.data }], guard := none } : Oper)) (v := ?_) rfl (by kernel_rfl) (by kernel_rfl) (by kernel_rfl) (fun _ _ _ h => h) (Or.inl ⟨by rfl, ?_⟩) (by assumption) ?_
              rotate_left
              · (intro wz hSw; (try dsimp only at hSw); go_simp; try with_reducible rfl)
              simp only [Act.put, List.setIfInBounds_toArray, List.set_cons_zero, List.set_cons_succ]
              refine wpAnyH_take (i := 6) (oi := ({ dst := some 31, op := Op.extract (Operand.tmp 25) 0, type := 25, pos := "law.go:27", after := #[{ on := 5, ground := Ground.data }], guard := none } : Oper)) (v := ?_) rfl (by kernel_rfl) (by kernel_rfl) (by kernel_rfl) (fun _ _ _ h => h) (Or.inl ⟨by rfl, ?_⟩) (by assumption) ?_
              rotate_left
              · (intro wz hSw; (try dsimp only at hSw); go_simp; try with_reducible rfl)
              simp only [Act.put, List.setIfInBounds_toArray, List.set_cons_zero, List.set_cons_succ]
              refine wpAnyH_take (i := 7) (oi := ({ dst := some 32, op := Op.extract (Operand.tmp 25) 1, type := 4, pos := "law.go:27", after := #[{ on := 5, ground := Ground.data }, { on := 9, ground := Ground.gcOnly Departure.lateStores }], guard := none } : Oper)) (v := ?_) rfl (by kernel_rfl) (by kernel_rfl) (by kernel_rfl) (fun _ _ _ h => h) (Or.inl ⟨by rfl, ?_⟩) (by assumption) ?_
              rotate_left
              · (intro wz hSw; (try dsimp only at hSw); go_simp; try with_reducible rfl)
              simp only [Act.put, List.setIfInBounds_toArray, List.set_cons_zero, List.set_cons_succ]
              refine wpAnyH_ready (rs := [9]) (by kernel_rfl) (by simp) ?_
              refine AllReadyH.cons (o := ({ dst := none, op := Op.store 25 (Operand.tmp 8) (Operand.tmp 31), type := 0, pos := "law.go:27", after := #[{ on := 8, ground := Ground.data }, { on := 6, ground := Ground.data }, { on := 4, ground := Ground.chain }, { on := 0, ground := Ground.phase }, { on := 1, ground := Ground.phase }, { on := 2, ground := Ground.phase }, { on := 3, ground := Ground.phase }, { on := 4, ground := Ground.phase }, { on := 5, ground := Ground.phase }, { on := 6, ground := Ground.phase }, { on := 7, ground := Ground.textOnly Departure.lateStores }, { on := 8, ground := Ground.phase }], guard := none } : Oper)) rfl (fun K hK => ?_) AllReadyH.nil
              · have c0 := M4.1.1
                have c1 := M4.1.2
                have c2 := M4.2.1
                have c3 := M4.2.2
                go_simp
                have M5 := M4.wrote (x' := (meetP P Q).1.1) (y' := (meetP P Q).1.2)
                refine hK.out _ _ (HST.out _ kM _ _ (by omega) hH4) (fun hH5 => ?_)
                clear hK K c0 c1 c2 c3
                obtain ⟨w5, hw5⟩ : ∃ w5, w5 = ((w4.setCell ⟨kM, 0, none⟩ (.int .i64 (meetP P Q).1.1)).setCell ⟨kM, 1, none⟩ (.int .i64 (meetP P Q).1.2)) := ⟨_, rfl⟩
                rw [← hw5] at hH5 M5 ⊢
                clear hw5
                refine wpAnyH_take (i := 10) (oi := ({ dst := some 9, op := Op.assign (Operand.tmp 32), type := 4, pos := "law.go:27", after := #[{ on := 7, ground := Ground.data }, { on := 9, ground := Ground.chain }, { on := 0, ground := Ground.phase }, { on := 1, ground := Ground.phase }, { on := 2, ground := Ground.phase }, { on := 3, ground := Ground.phase }, { on := 4, ground := Ground.phase }, { on := 5, ground := Ground.phase }, { on := 6, ground := Ground.phase }, { on := 7, ground := Ground.phase }, { on := 8, ground := Ground.phase }, { on := 9, ground := Ground.phase }], guard := none } : Oper)) (v := ?_) rfl (by kernel_rfl) (by kernel_rfl) (by kernel_rfl) (fun _ _ _ h => h) (Or.inl ⟨by rfl, ?_⟩) (by assumption) ?_
                rotate_left
                · (intro wz hSw; (try dsimp only at hSw); go_simp; try with_reducible rfl)
                simp only [Act.put, List.setIfInBounds_toArray, List.set_cons_zero, List.set_cons_succ]
                refine wpAnyH_done (by kernel_rfl) ?_ _
                go_wp2
                go_meet
                case rel => exact ⟨_, rfl, rfl, ⟨hH5.1, hH5.2.1⟩, ⟨hH5.2.2.2.1, hH5.2.2.2.2.1⟩, M5.1, hH5.2.2.2.2.2.2.out⟩
        · go_simp
          have hb2 : Below w1.heap.size w1 (w1.alloc (.cells #[.int .i64 0, .int .i64 0] 25)) := (Below.refl _ _).alloc (Nat.le_refl _) _
          have M2 := Bz.new w1 0 0 25
          have neM : N + 1 < w1.heap.size := hH1.2.2.2.2.2.1
          refine hK.out _ _ (HCL.out _ _ hH1 hb2) (fun hH2 => ?_)
          clear hK K
          obtain ⟨w2, hw2⟩ : ∃ w2, w2 = (w1.alloc (.cells #[.int .i64 0, .int .i64 0] 25)) := ⟨_, rfl⟩
          rw [← hw2] at hH2 M2 ⊢
          clear hw2
          generalize w1.heap.size = kM at *
          refine wpAnyH_ready (rs := [3]) (by kernel_rfl) (by simp) ?_
          refine AllReadyH.cons (o := ({ dst := some 29, op := Op.call { callee := Callee.value (Operand.func 10), args := #[Operand.tmp 28], argTypes := #[23] }, type := 25, pos := "law.go:27", after := #[{ on := 2, ground := Ground.data }, { on := 1, ground := Ground.chain }], guard := none } : Oper)) rfl (fun K hK => ?_) AllReadyH.nil
          · go_simp
            go_at_call 10
            refine (bel2 (to_any _ _ _)).mono ?_
            rintro e w3 ⟨rfl, hb3⟩
            have M3 := M2.keep hb3
            refine hK.out _ _ (HCL.out _ _ hH2 hb3) (fun hH3 => ?_)
            clear hK K
            refine wpAnyH_ready (rs := [4]) (by kernel_rfl) (by simp) ?_
            refine AllReadyH.cons (o := ({ dst := some 30, op := Op.call { callee := Callee.value (Operand.func 12), args := #[Operand.tmp 27, Operand.tmp 29], argTypes := #[25, 25] }, type := 28, pos := "law.go:27", after := #[{ on := 1, ground := Ground.data }, { on := 3, ground := Ground.data }, { on := 3, ground := Ground.chain }], guard := none } : Oper)) rfl (fun K hK => ?_) AllReadyH.nil
            · go_simp
              go_at_call 12
              refine (bel5 (meet_any P Q _)).mono ?_
              rintro e w4 ⟨rfl, hb4⟩
              have M4 := M3.keep hb4
              refine hK.out _ _ (HCL.out _ _ hH3 hb4) (fun hH4 => ?_)
              clear hK K
              refine wpAnyH_take (i := 5) (oi := ({ dst := some 25, op := Op.move (Operand.tmp 30), type := 28, pos := "law.go:27", after := #[{ on := 4, ground := Ground.data }], guard := none } : Oper)) (v := ?_) rfl (by kernel_rfl) (by kernel_rfl) (by kernel_rfl) (fun _ _ _ h => h) (Or.inl ⟨by rfl, ?_⟩) (by assumption) ?_
              rotate_left
              · (intro wz hSw; (try dsimp only at hSw); go_simp; try with_reducible rfl)
              simp only [Act.put, List.setIfInBounds_toArray, List.set_cons_zero, List.set_cons_succ]
              refine wpAnyH_take (i := 6) (oi := ({ dst := some 31, op := Op.extract (Operand.tmp 25) 0, type := 25, pos := "law.go:27", after := #[{ on := 5, ground := Ground.data }], guard := none } : Oper)) (v := ?_) rfl (by kernel_rfl) (by kernel_rfl) (by kernel_rfl) (fun _ _ _ h => h) (Or.inl ⟨by rfl, ?_⟩) (by assumption) ?_
              rotate_left
              · (intro wz hSw; (try dsimp only at hSw); go_simp; try with_reducible rfl)
              simp only [Act.put, List.setIfInBounds_toArray, List.set_cons_zero, List.set_cons_succ]
              refine wpAnyH_take (i := 7) (oi := ({ dst := some 32, op := Op.extract (Operand.tmp 25) 1, type := 4, pos := "law.go:27", after := #[{ on := 5, ground := Ground.data }, { on := 9, ground := Ground.gcOnly Departure.lateStores }], guard := none } : Oper)) (v := ?_) rfl (by kernel_rfl) (by kernel_rfl) (by kernel_rfl) (fun _ _ _ h => h) (Or.inl ⟨by rfl, ?_⟩) (by assumption) ?_
              rotate_left
              · (intro wz hSw; (try dsimp only at hSw); go_simp; try with_reducible rfl)
              simp only [Act.put, List.setIfInBounds_toArray, List.set_cons_zero, List.set_cons_succ]
              refine wpAnyH_ready (rs := [9]) (by kernel_rfl) (by simp) ?_
              refine AllReadyH.cons (o := ({ dst := none, op := Op.store 25 (Operand.tmp 8) (Operand.tmp 31), type := 0, pos := "law.go:27", after := #[{ on := 8, ground := Ground.data }, { on := 6, ground := Ground.data }, { on := 4, ground := Ground.chain }, { on := 0, ground := Ground.phase }, { on := 1, ground := Ground.phase }, { on := 2, ground := Ground.phase }, { on := 3, ground := Ground.phase }, { on := 4, ground := Ground.phase }, { on := 5, ground := Ground.phase }, { on := 6, ground := Ground.phase }, { on := 7, ground := Ground.textOnly Departure.lateStores }, { on := 8, ground := Ground.phase }], guard := none } : Oper)) rfl (fun K hK => ?_) AllReadyH.nil
              · have c0 := M4.1.1
                have c1 := M4.1.2
                have c2 := M4.2.1
                have c3 := M4.2.2
                go_simp
                have M5 := M4.wrote (x' := (meetP P Q).1.1) (y' := (meetP P Q).1.2)
                refine hK.out _ _ (HST.out _ kM _ _ (by omega) hH4) (fun hH5 => ?_)
                clear hK K c0 c1 c2 c3
                obtain ⟨w5, hw5⟩ : ∃ w5, w5 = ((w4.setCell ⟨kM, 0, none⟩ (.int .i64 (meetP P Q).1.1)).setCell ⟨kM, 1, none⟩ (.int .i64 (meetP P Q).1.2)) := ⟨_, rfl⟩
                rw [← hw5] at hH5 M5 ⊢
                clear hw5
                refine wpAnyH_take (i := 10) (oi := ({ dst := some 9, op := Op.assign (Operand.tmp 32), type := 4, pos := "law.go:27", after := #[{ on := 7, ground := Ground.data }, { on := 9, ground := Ground.chain }, { on := 0, ground := Ground.phase }, { on := 1, ground := Ground.phase }, { on := 2, ground := Ground.phase }, { on := 3, ground := Ground.phase }, { on := 4, ground := Ground.phase }, { on := 5, ground := Ground.phase }, { on := 6, ground := Ground.phase }, { on := 7, ground := Ground.phase }, { on := 8, ground := Ground.phase }, { on := 9, ground := Ground.phase }], guard := none } : Oper)) (v := ?_) rfl (by kernel_rfl) (by kernel_rfl) (by kernel_rfl) (fun _ _ _ h => h) (Or.inl ⟨by rfl, ?_⟩) (by assumption) ?_
                rotate_left
                · (intro wz hSw; (try dsimp only at hSw); go_simp; try with_reducible rfl)
                simp only [Act.put, List.setIfInBounds_toArray, List.set_cons_zero, List.set_cons_succ]
                refine wpAnyH_done (by kernel_rfl) ?_ _
                go_wp2
                go_meet
                case rel => exact ⟨_, rfl, rfl, ⟨hH5.1, hH5.2.1⟩, ⟨hH5.2.2.2.1, hH5.2.2.2.2.1⟩, M5.1, hH5.2.2.2.2.2.2.out⟩
      · go_simp
        have hb1 : Below w0.heap.size w0 (w0.alloc (.cells #[.int .i64 0, .int .i64 0] 25)) := (Below.refl _ _).alloc (Nat.le_refl _) _
        have M1 := Bz.new w0 0 0 25
        have neM : N + 1 < w0.heap.size := hH0.2.2.2.2.2.1
        refine hK.out _ _ (HCL.out _ _ hH0 hb1) (fun hH1 => ?_)
        clear hK K
        obtain ⟨w1, hw1⟩ : ∃ w1, w1 = (w0.alloc (.cells #[.int .i64 0, .int .i64 0] 25)) := ⟨_, rfl⟩
        rw [← hw1] at hH1 M1 ⊢
        clear hw1
        generalize w0.heap.size = kM at *
        refine wpAnyH_ready (rs := [1]) (by kernel_rfl) (by simp) ?_
        refine AllReadyH.cons (o := ({ dst := some 27, op := Op.call { callee := Callee.value (Operand.func 10), args := #[Operand.tmp 26], argTypes := #[23] }, type := 25, pos := "law.go:27", after := #[{ on := 0, ground := Ground.data }], guard := none } : Oper)) rfl (fun K hK => ?_) AllReadyH.nil
        · go_simp
          go_at_call 10
          refine (bel2 (to_any _ _ _)).mono ?_
          rintro e w2 ⟨rfl, hb2⟩
          have M2 := M1.keep hb2
          refine hK.out _ _ (HCL.out _ _ hH1 hb2) (fun hH2 => ?_)
          clear hK K
          refine wpAnyH_ready (rs := [3]) (by kernel_rfl) (by simp) ?_
          refine AllReadyH.cons (o := ({ dst := some 29, op := Op.call { callee := Callee.value (Operand.func 10), args := #[Operand.tmp 28], argTypes := #[23] }, type := 25, pos := "law.go:27", after := #[{ on := 2, ground := Ground.data }, { on := 1, ground := Ground.chain }], guard := none } : Oper)) rfl (fun K hK => ?_) AllReadyH.nil
          · go_simp
            go_at_call 10
            refine (bel2 (to_any _ _ _)).mono ?_
            rintro e w3 ⟨rfl, hb3⟩
            have M3 := M2.keep hb3
            refine hK.out _ _ (HCL.out _ _ hH2 hb3) (fun hH3 => ?_)
            clear hK K
            refine wpAnyH_ready (rs := [4]) (by kernel_rfl) (by simp) ?_
            refine AllReadyH.cons (o := ({ dst := some 30, op := Op.call { callee := Callee.value (Operand.func 12), args := #[Operand.tmp 27, Operand.tmp 29], argTypes := #[25, 25] }, type := 28, pos := "law.go:27", after := #[{ on := 1, ground := Ground.data }, { on := 3, ground := Ground.data }, { on := 3, ground := Ground.chain }], guard := none } : Oper)) rfl (fun K hK => ?_) AllReadyH.nil
            · go_simp
              go_at_call 12
              refine (bel5 (meet_any P Q _)).mono ?_
              rintro e w4 ⟨rfl, hb4⟩
              have M4 := M3.keep hb4
              refine hK.out _ _ (HCL.out _ _ hH3 hb4) (fun hH4 => ?_)
              clear hK K
              refine wpAnyH_take (i := 5) (oi := ({ dst := some 25, op := Op.move (Operand.tmp 30), type := 28, pos := "law.go:27", after := #[{ on := 4, ground := Ground.data }], guard := none } : Oper)) (v := ?_) rfl (by kernel_rfl) (by kernel_rfl) (by kernel_rfl) (fun _ _ _ h => h) (Or.inl ⟨by rfl, ?_⟩) (by assumption) ?_
              rotate_left
              · (intro wz hSw; (try dsimp only at hSw); go_simp; try with_reducible rfl)
              simp only [Act.put, List.setIfInBounds_toArray, List.set_cons_zero, List.set_cons_succ]
              refine wpAnyH_take (i := 6) (oi := ({ dst := some 31, op := Op.extract (Operand.tmp 25) 0, type := 25, pos := "law.go:27", after := #[{ on := 5, ground := Ground.data }], guard := none } : Oper)) (v := ?_) rfl (by kernel_rfl) (by kernel_rfl) (by kernel_rfl) (fun _ _ _ h => h) (Or.inl ⟨by rfl, ?_⟩) (by assumption) ?_
              rotate_left
              · (intro wz hSw; (try dsimp only at hSw); go_simp; try with_reducible rfl)
              simp only [Act.put, List.setIfInBounds_toArray, List.set_cons_zero, List.set_cons_succ]
              refine wpAnyH_take (i := 7) (oi := ({ dst := some 32, op := Op.extract (Operand.tmp 25) 1, type := 4, pos := "law.go:27", after := #[{ on := 5, ground := Ground.data }, { on := 9, ground := Ground.gcOnly Departure.lateStores }], guard := none } : Oper)) (v := ?_) rfl (by kernel_rfl) (by kernel_rfl) (by kernel_rfl) (fun _ _ _ h => h) (Or.inl ⟨by rfl, ?_⟩) (by assumption) ?_
              rotate_left
              · (intro wz hSw; (try dsimp only at hSw); go_simp; try with_reducible rfl)
              simp only [Act.put, List.setIfInBounds_toArray, List.set_cons_zero, List.set_cons_succ]
              refine wpAnyH_ready (rs := [9]) (by kernel_rfl) (by simp) ?_
              refine AllReadyH.cons (o := ({ dst := none, op := Op.store 25 (Operand.tmp 8) (Operand.tmp 31), type := 0, pos := "law.go:27", after := #[{ on := 8, ground := Ground.data }, { on := 6, ground := Ground.data }, { on := 4, ground := Ground.chain }, { on := 0, ground := Ground.phase }, { on := 1, ground := Ground.phase }, { on := 2, ground := Ground.phase }, { on := 3, ground := Ground.phase }, { on := 4, ground := Ground.phase }, { on := 5, ground := Ground.phase }, { on := 6, ground := Ground.phase }, { on := 7, ground := Ground.textOnly Departure.lateStores }, { on := 8, ground := Ground.phase }], guard := none } : Oper)) rfl (fun K hK => ?_) AllReadyH.nil
              · have c0 := M4.1.1
                have c1 := M4.1.2
                have c2 := M4.2.1
                have c3 := M4.2.2
                go_simp
                have M5 := M4.wrote (x' := (meetP P Q).1.1) (y' := (meetP P Q).1.2)
                refine hK.out _ _ (HST.out _ kM _ _ (by omega) hH4) (fun hH5 => ?_)
                clear hK K c0 c1 c2 c3
                obtain ⟨w5, hw5⟩ : ∃ w5, w5 = ((w4.setCell ⟨kM, 0, none⟩ (.int .i64 (meetP P Q).1.1)).setCell ⟨kM, 1, none⟩ (.int .i64 (meetP P Q).1.2)) := ⟨_, rfl⟩
                rw [← hw5] at hH5 M5 ⊢
                clear hw5
                refine wpAnyH_take (i := 10) (oi := ({ dst := some 9, op := Op.assign (Operand.tmp 32), type := 4, pos := "law.go:27", after := #[{ on := 7, ground := Ground.data }, { on := 9, ground := Ground.chain }, { on := 0, ground := Ground.phase }, { on := 1, ground := Ground.phase }, { on := 2, ground := Ground.phase }, { on := 3, ground := Ground.phase }, { on := 4, ground := Ground.phase }, { on := 5, ground := Ground.phase }, { on := 6, ground := Ground.phase }, { on := 7, ground := Ground.phase }, { on := 8, ground := Ground.phase }, { on := 9, ground := Ground.phase }], guard := none } : Oper)) (v := ?_) rfl (by kernel_rfl) (by kernel_rfl) (by kernel_rfl) (fun _ _ _ h => h) (Or.inl ⟨by rfl, ?_⟩) (by assumption) ?_
                rotate_left
                · (intro wz hSw; (try dsimp only at hSw); go_simp; try with_reducible rfl)
                simp only [Act.put, List.setIfInBounds_toArray, List.set_cons_zero, List.set_cons_succ]
                refine wpAnyH_done (by kernel_rfl) ?_ _
                go_wp2
                go_meet
                case rel => exact ⟨_, rfl, rfl, ⟨hH5.1, hH5.2.1⟩, ⟨hH5.2.2.2.1, hH5.2.2.2.2.1⟩, M5.1, hH5.2.2.2.2.2.2.out⟩
    case rest =>
      obtain ⟨p, rfl, rfl, HH⟩ := hcut
      clear hS0 HCL HST
      have f0 := HH.out.1.1
      have f1 := HH.out.1.2
      have f2 := HH.out.2.1.1
      have f3 := HH.out.2.1.2
      go_upto_region 5 with (go_at_call 13; refine (bel4 (meetr_any P Q _)).mono ?_; rintro e wK ⟨rfl, hK⟩)
      go_name_world W4 hW4
      have H4 : Hid (Bx W4 N P.1 P.2 ∧ Bx W4 (N + 1) Q.1 Q.2 ∧ Bx W4 p (meetP P Q).1.1 (meetP P Q).1.2 ∧ Bx W4 wK.heap.size (meetP P Q).1.1 (meetP P Q).1.2 ∧ Below N w W4) := by
        rw [← hW4]
        have u := HH.out.2.2.2.trans (hK.mono (Nat.le_of_lt HH.out.1.lt))
        exact ⟨(HH.out.1.keep hK).keep ((Below.refl _ _).alloc (Nat.le_refl _) _), (HH.out.2.1.keep hK).keep ((Below.refl _ _).alloc (Nat.le_refl _) _), (HH.out.2.2.1.keep hK).keep ((Below.refl _ _).alloc (Nat.le_refl _) _), Bx.new _ _ _ _, u.alloc (Nat.le_of_lt (HH.out.1.keep hK).lt) _⟩
      clear hW4 hK HH f0 f1 f2 f3
      generalize wK.heap.size = q at *
      have HCL : Hid (∀ a b : World, (a.cell? ⟨N, 0, none⟩ = some (.int .i64 P.1) ∧ a.cell? ⟨N, 1, none⟩ = some (.int .i64 P.2) ∧ N < a.heap.size ∧ a.cell? ⟨(N + 1), 0, none⟩ = some (.int .i64 Q.1) ∧ a.cell? ⟨(N + 1), 1, none⟩ = some (.int .i64 Q.2) ∧ (N + 1) < a.heap.size ∧ a.cell? ⟨p, 0, none⟩ = some (.int .i64 (meetP P Q).1.1) ∧ a.cell? ⟨p, 1, none⟩ = some (.int .i64 (meetP P Q).1.2) ∧ p < a.heap.size ∧ a.cell? ⟨q, 0, none⟩ = some (.int .i64 (meetP P Q).1.1) ∧ a.cell? ⟨q, 1, none⟩ = some (.int .i64 (meetP P Q).1.2) ∧ q < a.heap.size ∧ Hid (Below N w a)) → Below a.heap.size a b → (b.cell? ⟨N, 0, none⟩ = some (.int .i64 P.1) ∧ b.cell? ⟨N, 1, none⟩ = some (.int .i64 P.2) ∧ N < b.heap.size ∧ b.cell? ⟨(N + 1), 0, none⟩ = some (.int .i64 Q.1) ∧ b.cell? ⟨(N + 1), 1, none⟩ = some (.int .i64 Q.2) ∧ (N + 1) < b.heap.size ∧ b.cell? ⟨p, 0, none⟩ = some (.int .i64 (meetP P Q).1.1) ∧ b.cell? ⟨p, 1, none⟩ = some (.int .i64 (meetP P Q).1.2) ∧ p < b.heap.size ∧ b.cell? ⟨q, 0, none⟩ = some (.int .i64 (meetP P Q).1.1) ∧ b.cell? ⟨q, 1, none⟩ = some (.int .i64 (meetP P Q).1.2) ∧ q < b.heap.size ∧ Hid (Below N w b))) := fun a b h hb => by
        have x0 := Bx.keep ⟨h.1, h.2.1⟩ hb
        have x1 := Bx.keep ⟨h.2.2.2.1, h.2.2.2.2.1⟩ hb
        have x2 := Bx.keep ⟨h.2.2.2.2.2.2.1, h.2.2.2.2.2.2.2.1⟩ hb
        have x3 := Bx.keep ⟨h.2.2.2.2.2.2.2.2.2.1, h.2.2.2.2.2.2.2.2.2.2.1⟩ hb
        exact ⟨x0.1, x0.2, x0.lt, x1.1, x1.2, x1.lt, x2.1, x2.2, x2.lt, x3.1, x3.2, x3.lt, (h.2.2.2.2.2.2.2.2.2.2.2.2).out.trans (hb.mono (Nat.le_of_lt h.2.2.1))⟩
      have hS0 : W4.cell? ⟨N, 0, none⟩ = some (.int .i64 P.1) ∧ W4.cell? ⟨N, 1, none⟩ = some (.int .i64 P.2) ∧ N < W4.heap.size ∧ W4.cell? ⟨(N + 1), 0, none⟩ = some (.int .i64 Q.1) ∧ W4.cell? ⟨(N + 1), 1, none⟩ = some (.int .i64 Q.2) ∧ (N + 1) < W4.heap.size ∧ W4.cell? ⟨p, 0, none⟩ = some (.int .i64 (meetP P Q).1.1) ∧ W4.cell? ⟨p, 1, none⟩ = some (.int .i64 (meetP P Q).1.2) ∧ p < W4.heap.size ∧ W4.cell? ⟨q, 0, none⟩ = some (.int .i64 (meetP P Q).1.1) ∧ W4.cell? ⟨q, 1, none⟩ = some (.int .i64 (meetP P Q).1.2) ∧ q < W4.heap.size ∧ Hid (Below N w W4) := ⟨H4.out.1.1, H4.out.1.2, H4.out.1.lt, H4.out.2.1.1, H4.out.2.1.2, H4.out.2.1.lt, H4.out.2.2.1.1, H4.out.2.2.1.2, H4.out.2.2.1.lt, H4.out.2.2.2.1.1, H4.out.2.2.2.1.2, H4.out.2.2.2.1.lt, H4.out.2.2.2.2⟩
      clear H4
      refine wp_region_held_drew (S := fun w' => w'.cell? ⟨N, 0, none⟩ = some (.int .i64 P.1) ∧ w'.cell? ⟨N, 1, none⟩ = some (.int .i64 P.2) ∧ N < w'.heap.size ∧ w'.cell? ⟨(N + 1), 0, none⟩ = some (.int .i64 Q.1) ∧ w'.cell? ⟨(N + 1), 1, none⟩ = some (.int .i64 Q.2) ∧ (N + 1) < w'.heap.size ∧ w'.cell? ⟨p, 0, none⟩ = some (.int .i64 (meetP P Q).1.1) ∧ w'.cell? ⟨p, 1, none⟩ = some (.int .i64 (meetP P Q).1.2) ∧ p < w'.heap.size ∧ w'.cell? ⟨q, 0, none⟩ = some (.int .i64 (meetP P Q).1.1) ∧ w'.cell? ⟨q, 1, none⟩ = some (.int .i64 (meetP P Q).1.2) ∧ q < w'.heap.size ∧ Hid (Below N w w')) (by kernel_rfl) (HCL.out _ _ hS0 ((Below.refl _ _).drew)) (fun hHeld => ?_)
      refine wpAnyH_ready (rs := [0]) (by kernel_rfl) (by simp) ?_
      refine AllReadyH.cons (o := ({ dst := some 39, op := Op.call { callee := Callee.value (Operand.func 14), args := #[], argTypes := #[] }, type := 4, pos := "law.go:29", after := #[], guard := none } : Oper)) rfl (fun K hK => ?_) AllReadyH.nil
      go_simp
      go_at_call 14
      refine (lift (told_any _) (by assumption) HCL.out).mono ?_
      rintro e v1 ⟨rfl, g1⟩
      refine hK.out _ _ g1 (fun hHeld => ?_)
      clear hK K
      refine wpAnyH_take (i := 1) (oi := ({ dst := some 40, op := Op.unOp UnOp.not 4 (Operand.tmp 39), type := 4, pos := "law.go:29", after := #[{ on := 0, ground := Ground.data }], guard := none } : Oper)) (v := ?_) rfl (by kernel_rfl) (by kernel_rfl) (by kernel_rfl) (fun _ _ _ h => h) (Or.inl ⟨by rfl, ?_⟩) (by assumption) ?_
      rotate_left
      · (intro wz hSw; (try dsimp only at hSw); go_simp; try with_reducible rfl)
      simp only [Act.put, List.setIfInBounds_toArray, List.set_cons_zero, List.set_cons_succ]
      refine wpAnyH_take (i := 2) (oi := ({ dst := some 41, op := Op.move (Operand.tmp 40), type := 4, pos := "law.go:29", after := #[{ on := 1, ground := Ground.data }, { on := 0, ground := Ground.chain }], guard := none } : Oper)) (v := ?_) rfl (by kernel_rfl) (by kernel_rfl) (by kernel_rfl) (fun _ _ _ h => h) (Or.inl ⟨by rfl, ?_⟩) (by assumption) ?_
      rotate_left
      · (intro wz hSw; (try dsimp only at hSw); go_simp; try with_reducible rfl)
      simp only [Act.put, List.setIfInBounds_toArray, List.set_cons_zero, List.set_cons_succ]
      refine wpAnyH_take (i := 3) (oi := ({ dst := some 42, op := Op.move (Operand.tmp 7), type := 4, pos := "law.go:29", after := #[{ on := 2, ground := Ground.guard }], guard := some (2, false) } : Oper)) (v := ?_) rfl (by kernel_rfl) (by kernel_rfl) (by kernel_rfl) (fun _ _ _ h => h) (Or.inl ⟨by rfl, ?_⟩) (by assumption) ?_
      rotate_left
      · (intro wz hSw; (try dsimp only at hSw); go_simp; try with_reducible rfl)
      simp only [Act.put, List.setIfInBounds_toArray, List.set_cons_zero, List.set_cons_succ]
      refine wpAnyH_take (i := 4) (oi := ({ dst := some 43, op := Op.unOp UnOp.not 4 (Operand.tmp 42), type := 4, pos := "law.go:29", after := #[{ on := 3, ground := Ground.data }, { on := 2, ground := Ground.guard }], guard := some (2, false) } : Oper)) (v := ?_) rfl (by kernel_rfl) (by kernel_rfl) (by kernel_rfl) (fun _ _ _ h => h) (Or.inl ⟨by rfl, ?_⟩) (by assumption) ?_
      rotate_left
      · (intro wz hSw; (try dsimp only at hSw); go_simp; try with_reducible rfl)
      simp only [Act.put, List.setIfInBounds_toArray, List.set_cons_zero, List.set_cons_succ]
      refine wpAnyH_take (i := 5) (oi := ({ dst := some 44, op := Op.pick (Operand.tmp 41) (Operand.const (Value.bool true)) (Operand.tmp 43), type := 4, pos := "law.go:29", after := #[{ on := 2, ground := Ground.data }, { on := 4, ground := Ground.data }], guard := none } : Oper)) (v := ?_) rfl (by kernel_rfl) (by kernel_rfl) (by kernel_rfl) (fun _ _ _ h => h) (Or.inl ⟨by rfl, ?_⟩) (by assumption) ?_
      rotate_left
      · (intro wz hSw; (try dsimp only at hSw); go_simp; try with_reducible rfl)
      simp only [Act.put, List.setIfInBounds_toArray, List.set_cons_zero, List.set_cons_succ]
      refine wpAnyH_take (i := 6) (oi := ({ dst := some 45, op := Op.move (Operand.tmp 44), type := 4, pos := "law.go:29", after := #[{ on := 5, ground := Ground.data }, { on := 2, ground := Ground.chain }], guard := none } : Oper)) (v := ?_) rfl (by kernel_rfl) (by kernel_rfl) (by kernel_rfl) (fun _ _ _ h => h) (Or.inl ⟨by rfl, ?_⟩) (by assumption) ?_
      rotate_left
      · (intro wz hSw; (try dsimp only at hSw); go_simp; try with_reducible rfl)
      simp only [Act.put, List.setIfInBounds_toArray, List.set_cons_zero, List.set_cons_succ]
      refine wpAnyH_take (i := 7) (oi := ({ dst := some 46, op := Op.load 25 (Operand.tmp 8), type := 25, pos := "law.go:29", after := #[{ on := 6, ground := Ground.guard }], guard := some (6, false) } : Oper)) (v := ?_) rfl (by kernel_rfl) (by kernel_rfl) (by kernel_rfl) (fun _ _ _ h => h) (Or.inl ⟨by rfl, ?_⟩) (by assumption) ?_
      rotate_left
      · (intro wz hSw; (try dsimp only at hSw); go_simp; try with_reducible rfl)
      simp only [Act.put, List.setIfInBounds_toArray, List.set_cons_zero, List.set_cons_succ]
      refine wpAnyH_take (i := 9) (oi := ({ dst := some 48, op := Op.load 23 (Operand.tmp 10), type := 23, pos := "law.go:29", after := #[{ on := 6, ground := Ground.guard }], guard := some (6, false) } : Oper)) (v := ?_) rfl (by kernel_rfl) (by kernel_rfl) (by kernel_rfl) (fun _ _ _ h => h) (Or.inl ⟨by rfl, ?_⟩) (by assumption) ?_
      rotate_left
      · (intro wz hSw; (try dsimp only at hSw); go_simp; try with_reducible rfl)
      simp only [Act.put, List.setIfInBounds_toArray, List.set_cons_zero, List.set_cons_succ]
      refine wpAnyH_ready (rs := [8]) (by kernel_rfl) (by simp) ?_
      refine AllReadyH.cons (o := ({ dst := some 47, op := Op.call { callee := Callee.value (Operand.func 15), args := #[Operand.tmp 46], argTypes := #[25] }, type := 23, pos := "law.go:29", after := #[{ on := 7, ground := Ground.data }, { on := 6, ground := Ground.chain }, { on := 6, ground := Ground.guard }], guard := some (6, false) } : Oper)) rfl (fun K hK => ?_) AllReadyH.nil
      go_simp
      go_at_call 15
      refine (lift (bel2 (from_any _ _ _)) (by assumption) HCL.out).mono ?_
      rintro e v2 ⟨rfl, g2⟩
      refine hK.out _ _ g2 (fun hHeld => ?_)
      clear hK K
      refine wpAnyH_take (i := 10) (oi := ({ dst := some 49, op := Op.binOp BinOp.neq 23 (Operand.tmp 47) (Operand.tmp 48) 23, type := 4, pos := "law.go:29", after := #[{ on := 8, ground := Ground.data }, { on := 9, ground := Ground.data }, { on := 6, ground := Ground.guard }], guard := some (6, false) } : Oper)) (v := ?_) rfl (by kernel_rfl) (by kernel_rfl) (by kernel_rfl) (fun _ _ _ h => h) (Or.inl ⟨by rfl, ?_⟩) (by assumption) ?_
      rotate_left
      · (intro wz hSw; (try dsimp only at hSw); go_simp; try with_reducible rfl)
      simp only [Act.put, List.setIfInBounds_toArray, List.set_cons_zero, List.set_cons_succ]
      refine wpAnyH_take (i := 11) (oi := ({ dst := some 50, op := Op.pick (Operand.tmp 45) (Operand.const (Value.bool true)) (Operand.tmp 49), type := 4, pos := "law.go:29", after := #[{ on := 6, ground := Ground.data }, { on := 10, ground := Ground.data }], guard := none } : Oper)) (v := ?_) rfl (by kernel_rfl) (by kernel_rfl) (by kernel_rfl) (fun _ _ _ h => h) (Or.inl ⟨by rfl, ?_⟩) (by assumption) ?_
      rotate_left
      · (intro wz hSw; (try dsimp only at hSw); go_simp; try with_reducible rfl)
      simp only [Act.put, List.setIfInBounds_toArray, List.set_cons_zero, List.set_cons_succ]
      refine wpAnyH_take (i := 12) (oi := ({ dst := some 51, op := Op.move (Operand.tmp 50), type := 4, pos := "law.go:29", after := #[{ on := 11, ground := Ground.data }, { on := 8, ground := Ground.chain }], guard := none } : Oper)) (v := ?_) rfl (by kernel_rfl) (by kernel_rfl) (by kernel_rfl) (fun _ _ _ h => h) (Or.inl ⟨by rfl, ?_⟩) (by assumption) ?_
      rotate_left
      · (intro wz hSw; (try dsimp only at hSw); go_simp; try with_reducible rfl)
      simp only [Act.put, List.setIfInBounds_toArray, List.set_cons_zero, List.set_cons_succ]
      refine wpAnyH_take (i := 13) (oi := ({ dst := some 52, op := Op.move (Operand.tmp 9), type := 4, pos := "law.go:29", after := #[{ on := 12, ground := Ground.guard }], guard := some (12, false) } : Oper)) (v := ?_) rfl (by kernel_rfl) (by kernel_rfl) (by kernel_rfl) (fun _ _ _ h => h) (Or.inl ⟨by rfl, ?_⟩) (by assumption) ?_
      rotate_left
      · (intro wz hSw; (try dsimp only at hSw); go_simp; try with_reducible rfl)
      simp only [Act.put, List.setIfInBounds_toArray, List.set_cons_zero, List.set_cons_succ]
      refine wpAnyH_take (i := 14) (oi := ({ dst := some 53, op := Op.move (Operand.tmp 11), type := 4, pos := "law.go:29", after := #[{ on := 12, ground := Ground.guard }], guard := some (12, false) } : Oper)) (v := ?_) rfl (by kernel_rfl) (by kernel_rfl) (by kernel_rfl) (fun _ _ _ h => h) (Or.inl ⟨by rfl, ?_⟩) (by assumption) ?_
      rotate_left
      · (intro wz hSw; (try dsimp only at hSw); go_simp; try with_reducible rfl)
      simp only [Act.put, List.setIfInBounds_toArray, List.set_cons_zero, List.set_cons_succ]
      refine wpAnyH_take (i := 15) (oi := ({ dst := some 54, op := Op.binOp BinOp.neq 4 (Operand.tmp 52) (Operand.tmp 53) 4, type := 4, pos := "law.go:29", after := #[{ on := 13, ground := Ground.data }, { on := 14, ground := Ground.data }, { on := 12, ground := Ground.guard }], guard := some (12, false) } : Oper)) (v := ?_) rfl (by kernel_rfl) (by kernel_rfl) (by kernel_rfl) (fun _ _ _ h => h) (Or.inl ⟨by rfl, ?_⟩) (by assumption) ?_
      rotate_left
      · (intro wz hSw; (try dsimp only at hSw); go_simp; try with_reducible rfl)
      simp only [Act.put, List.setIfInBounds_toArray, List.set_cons_zero, List.set_cons_succ]
      refine wpAnyH_take (i := 16) (oi := ({ dst := some 55, op := Op.pick (Operand.tmp 51) (Operand.const (Value.bool true)) (Operand.tmp 54), type := 4, pos := "law.go:29", after := #[{ on := 12, ground := Ground.data }, { on := 15, ground := Ground.data }], guard := none } : Oper)) (v := ?_) rfl (by kernel_rfl) (by kernel_rfl) (by kernel_rfl) (fun _ _ _ h => h) (Or.inl ⟨by rfl, ?_⟩) (by assumption) ?_
      rotate_left
      · (intro wz hSw; (try dsimp only at hSw); go_simp; try with_reducible rfl)
      simp only [Act.put, List.setIfInBounds_toArray, List.set_cons_zero, List.set_cons_succ]
      refine wpAnyH_done (by kernel_rfl) ?_ _
      clear hS0 HCL g1
      go_upto_region 7 with fail
      have HCL : Hid (∀ a b : World, (a.cell? ⟨N, 0, none⟩ = some (.int .i64 P.1) ∧ a.cell? ⟨N, 1, none⟩ = some (.int .i64 P.2) ∧ N < a.heap.size ∧ a.cell? ⟨(N + 1), 0, none⟩ = some (.int .i64 Q.1) ∧ a.cell? ⟨(N + 1), 1, none⟩ = some (.int .i64 Q.2) ∧ (N + 1) < a.heap.size ∧ Hid (Below N w a)) → Below a.heap.size a b → (b.cell? ⟨N, 0, none⟩ = some (.int .i64 P.1) ∧ b.cell? ⟨N, 1, none⟩ = some (.int .i64 P.2) ∧ N < b.heap.size ∧ b.cell? ⟨(N + 1), 0, none⟩ = some (.int .i64 Q.1) ∧ b.cell? ⟨(N + 1), 1, none⟩ = some (.int .i64 Q.2) ∧ (N + 1) < b.heap.size ∧ Hid (Below N w b))) := fun a b h hb => by
        have x0 := Bx.keep ⟨h.1, h.2.1⟩ hb
        have x1 := Bx.keep ⟨h.2.2.2.1, h.2.2.2.2.1⟩ hb
        exact ⟨x0.1, x0.2, x0.lt, x1.1, x1.2, x1.lt, (h.2.2.2.2.2.2).out.trans (hb.mono (Nat.le_of_lt h.2.2.1))⟩
      have hS0 : v2.cell? ⟨N, 0, none⟩ = some (.int .i64 P.1) ∧ v2.cell? ⟨N, 1, none⟩ = some (.int .i64 P.2) ∧ N < v2.heap.size ∧ v2.cell? ⟨(N + 1), 0, none⟩ = some (.int .i64 Q.1) ∧ v2.cell? ⟨(N + 1), 1, none⟩ = some (.int .i64 Q.2) ∧ (N + 1) < v2.heap.size ∧ Hid (Below N w v2) := ⟨g2.1, g2.2.1, g2.2.2.1, g2.2.2.2.1, g2.2.2.2.2.1, g2.2.2.2.2.2.1, g2.2.2.2.2.2.2.2.2.2.2.2.2⟩
      clear g2 hHeld
      refine wp_region_held_drew (S := fun w' => w'.cell? ⟨N, 0, none⟩ = some (.int .i64 P.1) ∧ w'.cell? ⟨N, 1, none⟩ = some (.int .i64 P.2) ∧ N < w'.heap.size ∧ w'.cell? ⟨(N + 1), 0, none⟩ = some (.int .i64 Q.1) ∧ w'.cell? ⟨(N + 1), 1, none⟩ = some (.int .i64 Q.2) ∧ (N + 1) < w'.heap.size ∧ Hid (Below N w w')) (by kernel_rfl) (HCL.out _ _ hS0 ((Below.refl _ _).drew)) (fun hHeld => ?_)
      refine wpAnyH_take (i := 0) (oi := ({ dst := some 56, op := Op.move (Operand.tmp 2), type := 2, pos := "law.go:32", after := #[], guard := none } : Oper)) (v := ?_) rfl (by kernel_rfl) (by kernel_rfl) (by kernel_rfl) (fun _ _ _ h => h) (Or.inl ⟨by rfl, ?_⟩) (by assumption) ?_
      rotate_left
      · (intro wz hSw; (try dsimp only at hSw); go_simp; try with_reducible rfl)
      simp only [Act.put, List.setIfInBounds_toArray, List.set_cons_zero, List.set_cons_succ]
      refine wpAnyH_take (i := 3) (oi := ({ dst := some 59, op := Op.move (Operand.tmp 2), type := 2, pos := "law.go:32", after := #[], guard := none } : Oper)) (v := ?_) rfl (by kernel_rfl) (by kernel_rfl) (by kernel_rfl) (fun _ _ _ h => h) (Or.inl ⟨by rfl, ?_⟩) (by assumption) ?_
      rotate_left
      · (intro wz hSw; (try dsimp only at hSw); go_simp; try with_reducible rfl)
      simp only [Act.put, List.setIfInBounds_toArray, List.set_cons_zero, List.set_cons_succ]
      refine wpAnyH_take (i := 4) (oi := ({ dst := some 60, op := Op.move (Operand.tmp 2), type := 2, pos := "law.go:32", after := #[], guard := none } : Oper)) (v := ?_) rfl (by kernel_rfl) (by kernel_rfl) (by kernel_rfl) (fun _ _ _ h => h) (Or.inl ⟨by rfl, ?_⟩) (by assumption) ?_
      rotate_left
      · (intro wz hSw; (try dsimp only at hSw); go_simp; try with_reducible rfl)
      simp only [Act.put, List.setIfInBounds_toArray, List.set_cons_zero, List.set_cons_succ]
      refine wpAnyH_take (i := 5) (oi := ({ dst := some 61, op := Op.build 23 #[(0, Operand.tmp 59), (1, Operand.tmp 60)], type := 23, pos := "law.go:32", after := #[{ on := 3, ground := Ground.data }, { on := 4, ground := Ground.data }], guard := none } : Oper)) (v := ?_) rfl (by kernel_rfl) (by kernel_rfl) (by kernel_rfl) (fun _ _ _ h => h) (Or.inl ⟨by rfl, ?_⟩) (by assumption) ?_
      rotate_left
      · (intro wz hSw; (try dsimp only at hSw); go_simp; try with_reducible rfl)
      simp only [Act.put, List.setIfInBounds_toArray, List.set_cons_zero, List.set_cons_succ]
      refine wpAnyH_ready (rs := [1]) (by kernel_rfl) (by simp) ?_
      refine AllReadyH.cons (o := ({ dst := some 57, op := Op.call { callee := Callee.value (Operand.func 16), args := #[Operand.tmp 56], argTypes := #[2] }, type := 25, pos := "law.go:32", after := #[{ on := 0, ground := Ground.data }], guard := none } : Oper)) rfl (fun K hK => ?_) AllReadyH.nil
      go_simp
      go_at_call 16
      refine (lift (bel1 (of_any _ _)) (by assumption) HCL.out).mono ?_
      rintro e v1 ⟨rfl, g1⟩
      refine hK.out _ _ g1 (fun hHeld => ?_)
      clear hK K
      refine wpAnyH_ready (rs := [2]) (by kernel_rfl) (by simp) ?_
      refine AllReadyH.cons (o := ({ dst := some 58, op := Op.call { callee := Callee.value (Operand.func 15), args := #[Operand.tmp 57], argTypes := #[25] }, type := 23, pos := "law.go:32", after := #[{ on := 1, ground := Ground.data }, { on := 1, ground := Ground.chain }], guard := none } : Oper)) rfl (fun K hK => ?_) AllReadyH.nil
      go_simp
      go_at_call 15
      refine (lift (bel2 (from_any _ _ _)) (by assumption) HCL.out).mono ?_
      rintro e v2 ⟨rfl, g2⟩
      refine hK.out _ _ g2 (fun hHeld => ?_)
      clear hK K
      refine wpAnyH_take (i := 6) (oi := ({ dst := some 62, op := Op.binOp BinOp.eql 23 (Operand.tmp 58) (Operand.tmp 61) 23, type := 4, pos := "law.go:32", after := #[{ on := 2, ground := Ground.data }, { on := 5, ground := Ground.data }], guard := none } : Oper)) (v := ?_) rfl (by kernel_rfl) (by kernel_rfl) (by kernel_rfl) (fun _ _ _ h => h) (Or.inl ⟨by rfl, ?_⟩) (by assumption) ?_
      rotate_left
      · (intro wz hSw; (try dsimp only at hSw); go_simp; try with_reducible rfl)
      simp only [Act.put, List.setIfInBounds_toArray, List.set_cons_zero, List.set_cons_succ]
      refine wpAnyH_take (i := 7) (oi := ({ dst := some 63, op := Op.move (Operand.tmp 62), type := 4, pos := "law.go:32", after := #[{ on := 6, ground := Ground.data }, { on := 2, ground := Ground.chain }], guard := none } : Oper)) (v := ?_) rfl (by kernel_rfl) (by kernel_rfl) (by kernel_rfl) (fun _ _ _ h => h) (Or.inl ⟨by rfl, ?_⟩) (by assumption) ?_
      rotate_left
      · (intro wz hSw; (try dsimp only at hSw); go_simp; try with_reducible rfl)
      simp only [Act.put, List.setIfInBounds_toArray, List.set_cons_zero, List.set_cons_succ]
      refine wpAnyH_ready (rs := [8]) (by kernel_rfl) (by simp) ?_
      refine AllReadyH.cons (o := ({ dst := some 64, op := Op.call { callee := Callee.value (Operand.func 17), args := #[], argTypes := #[] }, type := 25, pos := "law.go:32", after := #[{ on := 7, ground := Ground.chain }, { on := 7, ground := Ground.guard }], guard := some (7, true) } : Oper)) rfl (fun K hK => ?_) AllReadyH.nil
      go_simp
      go_at_call 17
      refine (lift (bel1 (any_any _)) (by assumption) HCL.out).mono ?_
      rintro e v3 ⟨rfl, g3⟩
      refine hK.out _ _ g3 (fun hHeld => ?_)
      clear hK K
      refine wpAnyH_ready (rs := [9]) (by kernel_rfl) (by simp) ?_
      refine AllReadyH.cons (o := ({ dst := some 65, op := Op.call { callee := Callee.value (Operand.func 15), args := #[Operand.tmp 64], argTypes := #[25] }, type := 23, pos := "law.go:32", after := #[{ on := 8, ground := Ground.data }, { on := 8, ground := Ground.chain }, { on := 7, ground := Ground.guard }], guard := some (7, true) } : Oper)) rfl (fun K hK => ?_) AllReadyH.nil
      go_simp
      go_at_call 15
      refine (lift (bel2 (from_any _ _ _)) (by assumption) HCL.out).mono ?_
      rintro e v4 ⟨rfl, g4⟩
      refine hK.out _ _ g4 (fun hHeld => ?_)
      clear hK K
      refine wpAnyH_ready (rs := [10]) (by kernel_rfl) (by simp) ?_
      refine AllReadyH.cons (o := ({ dst := some 66, op := Op.call { callee := Callee.value (Operand.func 18), args := #[], argTypes := #[] }, type := 23, pos := "law.go:32", after := #[{ on := 9, ground := Ground.chain }, { on := 7, ground := Ground.guard }], guard := some (7, true) } : Oper)) rfl (fun K hK => ?_) AllReadyH.nil
      go_simp
      go_at_call 18
      refine (lift (bel1 (anyr_any _)) (by assumption) HCL.out).mono ?_
      rintro e v5 ⟨rfl, g5⟩
      refine hK.out _ _ g5 (fun hHeld => ?_)
      clear hK K
      refine wpAnyH_take (i := 11) (oi := ({ dst := some 67, op := Op.binOp BinOp.eql 23 (Operand.tmp 65) (Operand.tmp 66) 23, type := 4, pos := "law.go:32", after := #[{ on := 9, ground := Ground.data }, { on := 10, ground := Ground.data }, { on := 7, ground := Ground.guard }], guard := some (7, true) } : Oper)) (v := ?_) rfl (by kernel_rfl) (by kernel_rfl) (by kernel_rfl) (fun _ _ _ h => h) (Or.inl ⟨by rfl, ?_⟩) (by assumption) ?_
      rotate_left
      · (intro wz hSw; (try dsimp only at hSw); go_simp; try with_reducible rfl)
      simp only [Act.put, List.setIfInBounds_toArray, List.set_cons_zero, List.set_cons_succ]
      refine wpAnyH_take (i := 12) (oi := ({ dst := some 68, op := Op.pick (Operand.tmp 63) (Operand.tmp 67) (Operand.const (Value.bool false)), type := 4, pos := "law.go:32", after := #[{ on := 7, ground := Ground.data }, { on := 11, ground := Ground.data }], guard := none } : Oper)) (v := ?_) rfl (by kernel_rfl) (by kernel_rfl) (by kernel_rfl) (fun _ _ _ h => h) (Or.inl ⟨by rfl, ?_⟩) (by assumption) ?_
      rotate_left
      · (intro wz hSw; (try dsimp only at hSw); go_simp; try with_reducible rfl)
      simp only [Act.put, List.setIfInBounds_toArray, List.set_cons_zero, List.set_cons_succ]
      refine wpAnyH_take (i := 13) (oi := ({ dst := some 69, op := Op.move (Operand.tmp 68), type := 4, pos := "law.go:32", after := #[{ on := 12, ground := Ground.data }, { on := 10, ground := Ground.chain }], guard := none } : Oper)) (v := ?_) rfl (by kernel_rfl) (by kernel_rfl) (by kernel_rfl) (fun _ _ _ h => h) (Or.inl ⟨by rfl, ?_⟩) (by assumption) ?_
      rotate_left
      · (intro wz hSw; (try dsimp only at hSw); go_simp; try with_reducible rfl)
      simp only [Act.put, List.setIfInBounds_toArray, List.set_cons_zero, List.set_cons_succ]
      refine wpAnyH_take (i := 14) (oi := ({ dst := some 70, op := Op.load 23 (Operand.tmp 3), type := 23, pos := "law.go:32", after := #[{ on := 13, ground := Ground.guard }], guard := some (13, true) } : Oper)) (v := ?_) rfl (by kernel_rfl) (by kernel_rfl) (by kernel_rfl) (fun _ _ _ h => h) (Or.inl ⟨by rfl, ?_⟩) (by assumption) ?_
      rotate_left
      · (intro wz hSw; (try dsimp only at hSw); go_simp; try with_reducible rfl)
      simp only [Act.put, List.setIfInBounds_toArray, List.set_cons_zero, List.set_cons_succ]
      refine wpAnyH_take (i := 16) (oi := ({ dst := some 72, op := Op.move (Operand.tmp 2), type := 2, pos := "law.go:32", after := #[{ on := 13, ground := Ground.guard }], guard := some (13, true) } : Oper)) (v := ?_) rfl (by kernel_rfl) (by kernel_rfl) (by kernel_rfl) (fun _ _ _ h => h) (Or.inl ⟨by rfl, ?_⟩) (by assumption) ?_
      rotate_left
      · (intro wz hSw; (try dsimp only at hSw); go_simp; try with_reducible rfl)
      simp only [Act.put, List.setIfInBounds_toArray, List.set_cons_zero, List.set_cons_succ]
      refine wpAnyH_take (i := 18) (oi := ({ dst := some 74, op := Op.load 23 (Operand.tmp 3), type := 23, pos := "law.go:32", after := #[{ on := 13, ground := Ground.guard }], guard := some (13, true) } : Oper)) (v := ?_) rfl (by kernel_rfl) (by kernel_rfl) (by kernel_rfl) (fun _ _ _ h => h) (Or.inl ⟨by rfl, ?_⟩) (by assumption) ?_
      rotate_left
      · (intro wz hSw; (try dsimp only at hSw); go_simp; try with_reducible rfl)
      simp only [Act.put, List.setIfInBounds_toArray, List.set_cons_zero, List.set_cons_succ]
      refine wpAnyH_take (i := 19) (oi := ({ dst := some 75, op := Op.move (Operand.tmp 2), type := 2, pos := "law.go:32", after := #[{ on := 13, ground := Ground.guard }], guard := some (13, true) } : Oper)) (v := ?_) rfl (by kernel_rfl) (by kernel_rfl) (by kernel_rfl) (fun _ _ _ h => h) (Or.inl ⟨by rfl, ?_⟩) (by assumption) ?_
      rotate_left
      · (intro wz hSw; (try dsimp only at hSw); go_simp; try with_reducible rfl)
      simp only [Act.put, List.setIfInBounds_toArray, List.set_cons_zero, List.set_cons_succ]
      refine wpAnyH_ready (rs := [15]) (by kernel_rfl) (by simp) ?_
      refine AllReadyH.cons (o := ({ dst := some 71, op := Op.call { callee := Callee.value (Operand.func 10), args := #[Operand.tmp 70], argTypes := #[23] }, type := 25, pos := "law.go:32", after := #[{ on := 14, ground := Ground.data }, { on := 13, ground := Ground.chain }, { on := 13, ground := Ground.guard }], guard := some (13, true) } : Oper)) rfl (fun K hK => ?_) AllReadyH.nil
      go_simp
      go_at_call 10
      refine (lift (bel2 (to_any _ _ _)) (by assumption) HCL.out).mono ?_
      rintro e v6 ⟨rfl, g6⟩
      refine hK.out _ _ g6 (fun hHeld => ?_)
      clear hK K
      refine wpAnyH_ready (rs := [17]) (by kernel_rfl) (by simp) ?_
      refine AllReadyH.cons (o := ({ dst := some 73, op := Op.call { callee := Callee.value (Operand.func 19), args := #[Operand.tmp 71, Operand.tmp 72], argTypes := #[25, 2] }, type := 4, pos := "law.go:32", after := #[{ on := 15, ground := Ground.data }, { on := 16, ground := Ground.data }, { on := 15, ground := Ground.chain }, { on := 13, ground := Ground.guard }], guard := some (13, true) } : Oper)) rfl (fun K hK => ?_) AllReadyH.nil
      go_simp
      go_at_call 19
      refine (lift (bel1 (has_any _ _ _ _)) (by assumption) HCL.out).mono ?_
      rintro e v7 ⟨rfl, g7⟩
      refine hK.out _ _ g7 (fun hHeld => ?_)
      clear hK K
      refine wpAnyH_ready (rs := [20]) (by kernel_rfl) (by simp) ?_
      refine AllReadyH.cons (o := ({ dst := some 76, op := Op.call { callee := Callee.value (Operand.func 20), args := #[Operand.tmp 74, Operand.tmp 75], argTypes := #[23, 2] }, type := 4, pos := "law.go:32", after := #[{ on := 18, ground := Ground.data }, { on := 19, ground := Ground.data }, { on := 17, ground := Ground.chain }, { on := 13, ground := Ground.guard }], guard := some (13, true) } : Oper)) rfl (fun K hK => ?_) AllReadyH.nil
      go_simp
      go_at_call 20
      refine (lift (bel1 (hasr_any _ _ _ _)) (by assumption) HCL.out).mono ?_
      rintro e v8 ⟨rfl, g8⟩
      refine hK.out _ _ g8 (fun hHeld => ?_)
      clear hK K
      refine wpAnyH_take (i := 21) (oi := ({ dst := some 77, op := Op.binOp BinOp.eql 4 (Operand.tmp 73) (Operand.tmp 76) 4, type := 4, pos := "law.go:32", after := #[{ on := 17, ground := Ground.data }, { on := 20, ground := Ground.data }, { on := 13, ground := Ground.guard }], guard := some (13, true) } : Oper)) (v := ?_) rfl (by kernel_rfl) (by kernel_rfl) (by kernel_rfl) (fun _ _ _ h => h) (Or.inl ⟨by rfl, ?_⟩) (by assumption) ?_
      rotate_left
      · (intro wz hSw; (try dsimp only at hSw); go_simp; try with_reducible rfl)
      simp only [Act.put, List.setIfInBounds_toArray, List.set_cons_zero, List.set_cons_succ]
      refine wpAnyH_take (i := 22) (oi := ({ dst := some 78, op := Op.pick (Operand.tmp 69) (Operand.tmp 77) (Operand.const (Value.bool false)), type := 4, pos := "law.go:32", after := #[{ on := 13, ground := Ground.data }, { on := 21, ground := Ground.data }], guard := none } : Oper)) (v := ?_) rfl (by kernel_rfl) (by kernel_rfl) (by kernel_rfl) (fun _ _ _ h => h) (Or.inl ⟨by rfl, ?_⟩) (by assumption) ?_
      rotate_left
      · (intro wz hSw; (try dsimp only at hSw); go_simp; try with_reducible rfl)
      simp only [Act.put, List.setIfInBounds_toArray, List.set_cons_zero, List.set_cons_succ]
      refine wpAnyH_take (i := 23) (oi := ({ dst := some 79, op := Op.move (Operand.tmp 78), type := 4, pos := "law.go:32", after := #[{ on := 22, ground := Ground.data }, { on := 20, ground := Ground.chain }], guard := none } : Oper)) (v := ?_) rfl (by kernel_rfl) (by kernel_rfl) (by kernel_rfl) (fun _ _ _ h => h) (Or.inl ⟨by rfl, ?_⟩) (by assumption) ?_
      rotate_left
      · (intro wz hSw; (try dsimp only at hSw); go_simp; try with_reducible rfl)
      simp only [Act.put, List.setIfInBounds_toArray, List.set_cons_zero, List.set_cons_succ]
      refine wpAnyH_take (i := 24) (oi := ({ dst := some 80, op := Op.load 23 (Operand.tmp 3), type := 23, pos := "law.go:32", after := #[{ on := 23, ground := Ground.guard }], guard := some (23, true) } : Oper)) (v := ?_) rfl (by kernel_rfl) (by kernel_rfl) (by kernel_rfl) (fun _ _ _ h => h) (Or.inl ⟨by rfl, ?_⟩) (by assumption) ?_
      rotate_left
      · (intro wz hSw; (try dsimp only at hSw); go_simp; try with_reducible rfl)
      simp only [Act.put, List.setIfInBounds_toArray, List.set_cons_zero, List.set_cons_succ]
      refine wpAnyH_take (i := 26) (oi := ({ dst := some 82, op := Op.load 23 (Operand.tmp 4), type := 23, pos := "law.go:32", after := #[{ on := 23, ground := Ground.guard }], guard := some (23, true) } : Oper)) (v := ?_) rfl (by kernel_rfl) (by kernel_rfl) (by kernel_rfl) (fun _ _ _ h => h) (Or.inl ⟨by rfl, ?_⟩) (by assumption) ?_
      rotate_left
      · (intro wz hSw; (try dsimp only at hSw); go_simp; try with_reducible rfl)
      simp only [Act.put, List.setIfInBounds_toArray, List.set_cons_zero, List.set_cons_succ]
      refine wpAnyH_take (i := 30) (oi := ({ dst := some 86, op := Op.load 23 (Operand.tmp 3), type := 23, pos := "law.go:32", after := #[{ on := 23, ground := Ground.guard }], guard := some (23, true) } : Oper)) (v := ?_) rfl (by kernel_rfl) (by kernel_rfl) (by kernel_rfl) (fun _ _ _ h => h) (Or.inl ⟨by rfl, ?_⟩) (by assumption) ?_
      rotate_left
      · (intro wz hSw; (try dsimp only at hSw); go_simp; try with_reducible rfl)
      simp only [Act.put, List.setIfInBounds_toArray, List.set_cons_zero, List.set_cons_succ]
      refine wpAnyH_take (i := 31) (oi := ({ dst := some 87, op := Op.load 23 (Operand.tmp 4), type := 23, pos := "law.go:32", after := #[{ on := 23, ground := Ground.guard }], guard := some (23, true) } : Oper)) (v := ?_) rfl (by kernel_rfl) (by kernel_rfl) (by kernel_rfl) (fun _ _ _ h => h) (Or.inl ⟨by rfl, ?_⟩) (by assumption) ?_
      rotate_left
      · (intro wz hSw; (try dsimp only at hSw); go_simp; try with_reducible rfl)
      simp only [Act.put, List.setIfInBounds_toArray, List.set_cons_zero, List.set_cons_succ]
      refine wpAnyH_ready (rs := [25]) (by kernel_rfl) (by simp) ?_
      refine AllReadyH.cons (o := ({ dst := some 81, op := Op.call { callee := Callee.value (Operand.func 10), args := #[Operand.tmp 80], argTypes := #[23] }, type := 25, pos := "law.go:32", after := #[{ on := 24, ground := Ground.data }, { on := 23, ground := Ground.chain }, { on := 23, ground := Ground.guard }], guard := some (23, true) } : Oper)) rfl (fun K hK => ?_) AllReadyH.nil
      go_simp
      go_at_call 10
      refine (lift (bel2 (to_any _ _ _)) (by assumption) HCL.out).mono ?_
      rintro e v9 ⟨rfl, g9⟩
      refine hK.out _ _ g9 (fun hHeld => ?_)
      clear hK K
      refine wpAnyH_ready (rs := [27]) (by kernel_rfl) (by simp) ?_
      refine AllReadyH.cons (o := ({ dst := some 83, op := Op.call { callee := Callee.value (Operand.func 10), args := #[Operand.tmp 82], argTypes := #[23] }, type := 25, pos := "law.go:32", after := #[{ on := 26, ground := Ground.data }, { on := 25, ground := Ground.chain }, { on := 23, ground := Ground.guard }], guard := some (23, true) } : Oper)) rfl (fun K hK => ?_) AllReadyH.nil
      go_simp
      go_at_call 10
      refine (lift (bel2 (to_any _ _ _)) (by assumption) HCL.out).mono ?_
      rintro e v10 ⟨rfl, g10⟩
      refine hK.out _ _ g10 (fun hHeld => ?_)
      clear hK K
      refine wpAnyH_ready (rs := [28]) (by kernel_rfl) (by simp) ?_
      refine AllReadyH.cons (o := ({ dst := some 84, op := Op.call { callee := Callee.value (Operand.func 21), args := #[Operand.tmp 81, Operand.tmp 83], argTypes := #[25, 25] }, type := 25, pos := "law.go:32", after := #[{ on := 25, ground := Ground.data }, { on := 27, ground := Ground.data }, { on := 27, ground := Ground.chain }, { on := 23, ground := Ground.guard }], guard := some (23, true) } : Oper)) rfl (fun K hK => ?_) AllReadyH.nil
      go_simp
      go_at_call 21
      refine (lift (bel3 (join_any _ _ _ _ _)) (by assumption) HCL.out).mono ?_
      rintro e v11 ⟨rfl, g11⟩
      refine hK.out _ _ g11 (fun hHeld => ?_)
      clear hK K
      refine wpAnyH_ready (rs := [29]) (by kernel_rfl) (by simp) ?_
      refine AllReadyH.cons (o := ({ dst := some 85, op := Op.call { callee := Callee.value (Operand.func 15), args := #[Operand.tmp 84], argTypes := #[25] }, type := 23, pos := "law.go:32", after := #[{ on := 28, ground := Ground.data }, { on := 28, ground := Ground.chain }, { on := 23, ground := Ground.guard }], guard := some (23, true) } : Oper)) rfl (fun K hK => ?_) AllReadyH.nil
      go_simp
      go_at_call 15
      refine (lift (bel2 (from_any _ _ _)) (by assumption) HCL.out).mono ?_
      rintro e v12 ⟨rfl, g12⟩
      refine hK.out _ _ g12 (fun hHeld => ?_)
      clear hK K
      refine wpAnyH_ready (rs := [32]) (by kernel_rfl) (by simp) ?_
      refine AllReadyH.cons (o := ({ dst := some 88, op := Op.call { callee := Callee.value (Operand.func 22), args := #[Operand.tmp 86, Operand.tmp 87], argTypes := #[23, 23] }, type := 23, pos := "law.go:32", after := #[{ on := 30, ground := Ground.data }, { on := 31, ground := Ground.data }, { on := 29, ground := Ground.chain }, { on := 23, ground := Ground.guard }], guard := some (23, true) } : Oper)) rfl (fun K hK => ?_) AllReadyH.nil
      go_simp
      go_at_call 22
      refine (lift (bel3 (joinr_any _ _ _ _ _)) (by assumption) HCL.out).mono ?_
      rintro e v13 ⟨rfl, g13⟩
      refine hK.out _ _ g13 (fun hHeld => ?_)
      clear hK K
      refine wpAnyH_take (i := 33) (oi := ({ dst := some 89, op := Op.binOp BinOp.eql 23 (Operand.tmp 85) (Operand.tmp 88) 23, type := 4, pos := "law.go:32", after := #[{ on := 29, ground := Ground.data }, { on := 32, ground := Ground.data }, { on := 23, ground := Ground.guard }], guard := some (23, true) } : Oper)) (v := ?_) rfl (by kernel_rfl) (by kernel_rfl) (by kernel_rfl) (fun _ _ _ h => h) (Or.inl ⟨by rfl, ?_⟩) (by assumption) ?_
      rotate_left
      · (intro wz hSw; (try dsimp only at hSw); go_simp; try with_reducible rfl)
      simp only [Act.put, List.setIfInBounds_toArray, List.set_cons_zero, List.set_cons_succ]
      refine wpAnyH_take (i := 34) (oi := ({ dst := some 90, op := Op.pick (Operand.tmp 79) (Operand.tmp 89) (Operand.const (Value.bool false)), type := 4, pos := "law.go:32", after := #[{ on := 23, ground := Ground.data }, { on := 33, ground := Ground.data }], guard := none } : Oper)) (v := ?_) rfl (by kernel_rfl) (by kernel_rfl) (by kernel_rfl) (fun _ _ _ h => h) (Or.inl ⟨by rfl, ?_⟩) (by assumption) ?_
      rotate_left
      · (intro wz hSw; (try dsimp only at hSw); go_simp; try with_reducible rfl)
      simp only [Act.put, List.setIfInBounds_toArray, List.set_cons_zero, List.set_cons_succ]
      refine wpAnyH_take (i := 35) (oi := ({ dst := some 91, op := Op.move (Operand.tmp 90), type := 4, pos := "law.go:32", after := #[{ on := 34, ground := Ground.data }, { on := 32, ground := Ground.chain }], guard := none } : Oper)) (v := ?_) rfl (by kernel_rfl) (by kernel_rfl) (by kernel_rfl) (fun _ _ _ h => h) (Or.inl ⟨by rfl, ?_⟩) (by assumption) ?_
      rotate_left
      · (intro wz hSw; (try dsimp only at hSw); go_simp; try with_reducible rfl)
      simp only [Act.put, List.setIfInBounds_toArray, List.set_cons_zero, List.set_cons_succ]
      refine wpAnyH_take (i := 36) (oi := ({ dst := some 92, op := Op.load 23 (Operand.tmp 3), type := 23, pos := "law.go:32", after := #[{ on := 35, ground := Ground.guard }], guard := some (35, true) } : Oper)) (v := ?_) rfl (by kernel_rfl) (by kernel_rfl) (by kernel_rfl) (fun _ _ _ h => h) (Or.inl ⟨by rfl, ?_⟩) (by assumption) ?_
      rotate_left
      · (intro wz hSw; (try dsimp only at hSw); go_simp; try with_reducible rfl)
      simp only [Act.put, List.setIfInBounds_toArray, List.set_cons_zero, List.set_cons_succ]
      refine wpAnyH_take (i := 38) (oi := ({ dst := some 94, op := Op.load 23 (Operand.tmp 4), type := 23, pos := "law.go:32", after := #[{ on := 35, ground := Ground.guard }], guard := some (35, true) } : Oper)) (v := ?_) rfl (by kernel_rfl) (by kernel_rfl) (by kernel_rfl) (fun _ _ _ h => h) (Or.inl ⟨by rfl, ?_⟩) (by assumption) ?_
      rotate_left
      · (intro wz hSw; (try dsimp only at hSw); go_simp; try with_reducible rfl)
      simp only [Act.put, List.setIfInBounds_toArray, List.set_cons_zero, List.set_cons_succ]
      refine wpAnyH_take (i := 41) (oi := ({ dst := some 97, op := Op.load 23 (Operand.tmp 3), type := 23, pos := "law.go:32", after := #[{ on := 35, ground := Ground.guard }], guard := some (35, true) } : Oper)) (v := ?_) rfl (by kernel_rfl) (by kernel_rfl) (by kernel_rfl) (fun _ _ _ h => h) (Or.inl ⟨by rfl, ?_⟩) (by assumption) ?_
      rotate_left
      · (intro wz hSw; (try dsimp only at hSw); go_simp; try with_reducible rfl)
      simp only [Act.put, List.setIfInBounds_toArray, List.set_cons_zero, List.set_cons_succ]
      refine wpAnyH_take (i := 42) (oi := ({ dst := some 98, op := Op.load 23 (Operand.tmp 4), type := 23, pos := "law.go:32", after := #[{ on := 35, ground := Ground.guard }], guard := some (35, true) } : Oper)) (v := ?_) rfl (by kernel_rfl) (by kernel_rfl) (by kernel_rfl) (fun _ _ _ h => h) (Or.inl ⟨by rfl, ?_⟩) (by assumption) ?_
      rotate_left
      · (intro wz hSw; (try dsimp only at hSw); go_simp; try with_reducible rfl)
      simp only [Act.put, List.setIfInBounds_toArray, List.set_cons_zero, List.set_cons_succ]
      refine wpAnyH_ready (rs := [37]) (by kernel_rfl) (by simp) ?_
      refine AllReadyH.cons (o := ({ dst := some 93, op := Op.call { callee := Callee.value (Operand.func 10), args := #[Operand.tmp 92], argTypes := #[23] }, type := 25, pos := "law.go:32", after := #[{ on := 36, ground := Ground.data }, { on := 35, ground := Ground.chain }, { on := 35, ground := Ground.guard }], guard := some (35, true) } : Oper)) rfl (fun K hK => ?_) AllReadyH.nil
      go_simp
      go_at_call 10
      refine (lift (bel2 (to_any _ _ _)) (by assumption) HCL.out).mono ?_
      rintro e v14 ⟨rfl, g14⟩
      refine hK.out _ _ g14 (fun hHeld => ?_)
      clear hK K
      refine wpAnyH_ready (rs := [39]) (by kernel_rfl) (by simp) ?_
      refine AllReadyH.cons (o := ({ dst := some 95, op := Op.call { callee := Callee.value (Operand.func 10), args := #[Operand.tmp 94], argTypes := #[23] }, type := 25, pos := "law.go:32", after := #[{ on := 38, ground := Ground.data }, { on := 37, ground := Ground.chain }, { on := 35, ground := Ground.guard }], guard := some (35, true) } : Oper)) rfl (fun K hK => ?_) AllReadyH.nil
      go_simp
      go_at_call 10
      refine (lift (bel2 (to_any _ _ _)) (by assumption) HCL.out).mono ?_
      rintro e v15 ⟨rfl, g15⟩
      refine hK.out _ _ g15 (fun hHeld => ?_)
      clear hK K
      refine wpAnyH_ready (rs := [40]) (by kernel_rfl) (by simp) ?_
      refine AllReadyH.cons (o := ({ dst := some 96, op := Op.call { callee := Callee.value (Operand.func 23), args := #[Operand.tmp 93, Operand.tmp 95], argTypes := #[25, 25] }, type := 4, pos := "law.go:32", after := #[{ on := 37, ground := Ground.data }, { on := 39, ground := Ground.data }, { on := 39, ground := Ground.chain }, { on := 35, ground := Ground.guard }], guard := some (35, true) } : Oper)) rfl (fun K hK => ?_) AllReadyH.nil
      go_simp
      go_at_call 23
      refine (lift (bel2 (within_any _ _ _ _ _)) (by assumption) HCL.out).mono ?_
      rintro e v16 ⟨rfl, g16⟩
      refine hK.out _ _ g16 (fun hHeld => ?_)
      clear hK K
      refine wpAnyH_ready (rs := [43]) (by kernel_rfl) (by simp) ?_
      refine AllReadyH.cons (o := ({ dst := some 99, op := Op.call { callee := Callee.value (Operand.func 24), args := #[Operand.tmp 97, Operand.tmp 98], argTypes := #[23, 23] }, type := 4, pos := "law.go:32", after := #[{ on := 41, ground := Ground.data }, { on := 42, ground := Ground.data }, { on := 40, ground := Ground.chain }, { on := 35, ground := Ground.guard }], guard := some (35, true) } : Oper)) rfl (fun K hK => ?_) AllReadyH.nil
      go_simp
      go_at_call 24
      refine (lift (bel2 (withinr_any _ _ _ _ _)) (by assumption) HCL.out).mono ?_
      rintro e v17 ⟨rfl, g17⟩
      refine hK.out _ _ g17 (fun hHeld => ?_)
      clear hK K
      refine wpAnyH_take (i := 44) (oi := ({ dst := some 100, op := Op.binOp BinOp.eql 4 (Operand.tmp 96) (Operand.tmp 99) 4, type := 4, pos := "law.go:32", after := #[{ on := 40, ground := Ground.data }, { on := 43, ground := Ground.data }, { on := 35, ground := Ground.guard }], guard := some (35, true) } : Oper)) (v := ?_) rfl (by kernel_rfl) (by kernel_rfl) (by kernel_rfl) (fun _ _ _ h => h) (Or.inl ⟨by rfl, ?_⟩) (by assumption) ?_
      rotate_left
      · (intro wz hSw; (try dsimp only at hSw); go_simp; try with_reducible rfl)
      simp only [Act.put, List.setIfInBounds_toArray, List.set_cons_zero, List.set_cons_succ]
      refine wpAnyH_take (i := 45) (oi := ({ dst := some 101, op := Op.pick (Operand.tmp 91) (Operand.tmp 100) (Operand.const (Value.bool false)), type := 4, pos := "law.go:32", after := #[{ on := 35, ground := Ground.data }, { on := 44, ground := Ground.data }], guard := none } : Oper)) (v := ?_) rfl (by kernel_rfl) (by kernel_rfl) (by kernel_rfl) (fun _ _ _ h => h) (Or.inl ⟨by rfl, ?_⟩) (by assumption) ?_
      rotate_left
      · (intro wz hSw; (try dsimp only at hSw); go_simp; try with_reducible rfl)
      simp only [Act.put, List.setIfInBounds_toArray, List.set_cons_zero, List.set_cons_succ]
      refine wpAnyH_take (i := 46) (oi := ({ dst := some 102, op := Op.move (Operand.tmp 101), type := 4, pos := "law.go:32", after := #[{ on := 45, ground := Ground.data }, { on := 43, ground := Ground.chain }], guard := none } : Oper)) (v := ?_) rfl (by kernel_rfl) (by kernel_rfl) (by kernel_rfl) (fun _ _ _ h => h) (Or.inl ⟨by rfl, ?_⟩) (by assumption) ?_
      rotate_left
      · (intro wz hSw; (try dsimp only at hSw); go_simp; try with_reducible rfl)
      simp only [Act.put, List.setIfInBounds_toArray, List.set_cons_zero, List.set_cons_succ]
      refine wpAnyH_take (i := 47) (oi := ({ dst := some 103, op := Op.load 23 (Operand.tmp 3), type := 23, pos := "law.go:32", after := #[{ on := 46, ground := Ground.guard }], guard := some (46, true) } : Oper)) (v := ?_) rfl (by kernel_rfl) (by kernel_rfl) (by kernel_rfl) (fun _ _ _ h => h) (Or.inl ⟨by rfl, ?_⟩) (by assumption) ?_
      rotate_left
      · (intro wz hSw; (try dsimp only at hSw); go_simp; try with_reducible rfl)
      simp only [Act.put, List.setIfInBounds_toArray, List.set_cons_zero, List.set_cons_succ]
      refine wpAnyH_take (i := 49) (oi := ({ dst := some 105, op := Op.load 23 (Operand.tmp 4), type := 23, pos := "law.go:32", after := #[{ on := 46, ground := Ground.guard }], guard := some (46, true) } : Oper)) (v := ?_) rfl (by kernel_rfl) (by kernel_rfl) (by kernel_rfl) (fun _ _ _ h => h) (Or.inl ⟨by rfl, ?_⟩) (by assumption) ?_
      rotate_left
      · (intro wz hSw; (try dsimp only at hSw); go_simp; try with_reducible rfl)
      simp only [Act.put, List.setIfInBounds_toArray, List.set_cons_zero, List.set_cons_succ]
      refine wpAnyH_take (i := 53) (oi := ({ dst := some 109, op := Op.load 23 (Operand.tmp 3), type := 23, pos := "law.go:32", after := #[{ on := 46, ground := Ground.guard }], guard := some (46, true) } : Oper)) (v := ?_) rfl (by kernel_rfl) (by kernel_rfl) (by kernel_rfl) (fun _ _ _ h => h) (Or.inl ⟨by rfl, ?_⟩) (by assumption) ?_
      rotate_left
      · (intro wz hSw; (try dsimp only at hSw); go_simp; try with_reducible rfl)
      simp only [Act.put, List.setIfInBounds_toArray, List.set_cons_zero, List.set_cons_succ]
      refine wpAnyH_take (i := 54) (oi := ({ dst := some 110, op := Op.load 23 (Operand.tmp 4), type := 23, pos := "law.go:32", after := #[{ on := 46, ground := Ground.guard }], guard := some (46, true) } : Oper)) (v := ?_) rfl (by kernel_rfl) (by kernel_rfl) (by kernel_rfl) (fun _ _ _ h => h) (Or.inl ⟨by rfl, ?_⟩) (by assumption) ?_
      rotate_left
      · (intro wz hSw; (try dsimp only at hSw); go_simp; try with_reducible rfl)
      simp only [Act.put, List.setIfInBounds_toArray, List.set_cons_zero, List.set_cons_succ]
      refine wpAnyH_ready (rs := [48]) (by kernel_rfl) (by simp) ?_
      refine AllReadyH.cons (o := ({ dst := some 104, op := Op.call { callee := Callee.value (Operand.func 10), args := #[Operand.tmp 103], argTypes := #[23] }, type := 25, pos := "law.go:32", after := #[{ on := 47, ground := Ground.data }, { on := 46, ground := Ground.chain }, { on := 46, ground := Ground.guard }], guard := some (46, true) } : Oper)) rfl (fun K hK => ?_) AllReadyH.nil
      go_simp
      go_at_call 10
      refine (lift (bel2 (to_any _ _ _)) (by assumption) HCL.out).mono ?_
      rintro e v18 ⟨rfl, g18⟩
      refine hK.out _ _ g18 (fun hHeld => ?_)
      clear hK K
      refine wpAnyH_ready (rs := [50]) (by kernel_rfl) (by simp) ?_
      refine AllReadyH.cons (o := ({ dst := some 106, op := Op.call { callee := Callee.value (Operand.func 10), args := #[Operand.tmp 105], argTypes := #[23] }, type := 25, pos := "law.go:32", after := #[{ on := 49, ground := Ground.data }, { on := 48, ground := Ground.chain }, { on := 46, ground := Ground.guard }], guard := some (46, true) } : Oper)) rfl (fun K hK => ?_) AllReadyH.nil
      go_simp
      go_at_call 10
      refine (lift (bel2 (to_any _ _ _)) (by assumption) HCL.out).mono ?_
      rintro e v19 ⟨rfl, g19⟩
      refine hK.out _ _ g19 (fun hHeld => ?_)
      clear hK K
      refine wpAnyH_ready (rs := [51]) (by kernel_rfl) (by simp) ?_
      refine AllReadyH.cons (o := ({ dst := some 107, op := Op.call { callee := Callee.value (Operand.func 25), args := #[Operand.tmp 104, Operand.tmp 106], argTypes := #[25, 25] }, type := 25, pos := "law.go:32", after := #[{ on := 48, ground := Ground.data }, { on := 50, ground := Ground.data }, { on := 50, ground := Ground.chain }, { on := 46, ground := Ground.guard }], guard := some (46, true) } : Oper)) rfl (fun K hK => ?_) AllReadyH.nil
      go_simp
      go_at_call 25
      refine (lift (widen_any _ _ _ _ _) (by assumption) HCL.out).mono ?_
      rintro e v20 ⟨rfl, g20⟩
      refine hK.out _ _ g20 (fun hHeld => ?_)
      clear hK K
      refine wpAnyH_ready (rs := [52]) (by kernel_rfl) (by simp) ?_
      refine AllReadyH.cons (o := ({ dst := some 108, op := Op.call { callee := Callee.value (Operand.func 15), args := #[Operand.tmp 107], argTypes := #[25] }, type := 23, pos := "law.go:32", after := #[{ on := 51, ground := Ground.data }, { on := 51, ground := Ground.chain }, { on := 46, ground := Ground.guard }], guard := some (46, true) } : Oper)) rfl (fun K hK => ?_) AllReadyH.nil
      go_simp
      go_at_call 15
      refine (lift (bel2 (from_any _ _ _)) (by assumption) HCL.out).mono ?_
      rintro e v21 ⟨rfl, g21⟩
      refine hK.out _ _ g21 (fun hHeld => ?_)
      clear hK K
      refine wpAnyH_ready (rs := [55]) (by kernel_rfl) (by simp) ?_
      refine AllReadyH.cons (o := ({ dst := some 111, op := Op.call { callee := Callee.value (Operand.func 26), args := #[Operand.tmp 109, Operand.tmp 110], argTypes := #[23, 23] }, type := 23, pos := "law.go:32", after := #[{ on := 53, ground := Ground.data }, { on := 54, ground := Ground.data }, { on := 52, ground := Ground.chain }, { on := 46, ground := Ground.guard }], guard := some (46, true) } : Oper)) rfl (fun K hK => ?_) AllReadyH.nil
      go_simp
      go_at_call 26
      refine (lift (widenr_any _ _ _ _ _) (by assumption) HCL.out).mono ?_
      rintro e v22 ⟨rfl, g22⟩
      refine hK.out _ _ g22 (fun hHeld => ?_)
      clear hK K
      refine wpAnyH_take (i := 56) (oi := ({ dst := some 112, op := Op.binOp BinOp.eql 23 (Operand.tmp 108) (Operand.tmp 111) 23, type := 4, pos := "law.go:32", after := #[{ on := 52, ground := Ground.data }, { on := 55, ground := Ground.data }, { on := 46, ground := Ground.guard }], guard := some (46, true) } : Oper)) (v := ?_) rfl (by kernel_rfl) (by kernel_rfl) (by kernel_rfl) (fun _ _ _ h => h) (Or.inl ⟨by rfl, ?_⟩) (by assumption) ?_
      rotate_left
      · (intro wz hSw; (try dsimp only at hSw); go_simp; try with_reducible rfl)
      simp only [Act.put, List.setIfInBounds_toArray, List.set_cons_zero, List.set_cons_succ]
      refine wpAnyH_take (i := 57) (oi := ({ dst := some 113, op := Op.pick (Operand.tmp 102) (Operand.tmp 112) (Operand.const (Value.bool false)), type := 4, pos := "law.go:32", after := #[{ on := 46, ground := Ground.data }, { on := 56, ground := Ground.data }], guard := none } : Oper)) (v := ?_) rfl (by kernel_rfl) (by kernel_rfl) (by kernel_rfl) (fun _ _ _ h => h) (Or.inl ⟨by rfl, ?_⟩) (by assumption) ?_
      rotate_left
      · (intro wz hSw; (try dsimp only at hSw); go_simp; try with_reducible rfl)
      simp only [Act.put, List.setIfInBounds_toArray, List.set_cons_zero, List.set_cons_succ]
      refine wpAnyH_take (i := 58) (oi := ({ dst := some 6, op := Op.assign (Operand.tmp 113), type := 4, pos := "law.go:32", after := #[{ on := 57, ground := Ground.data }, { on := 55, ground := Ground.chain }, { on := 0, ground := Ground.phase }, { on := 1, ground := Ground.phase }, { on := 2, ground := Ground.phase }, { on := 3, ground := Ground.phase }, { on := 4, ground := Ground.phase }, { on := 5, ground := Ground.phase }, { on := 6, ground := Ground.phase }, { on := 7, ground := Ground.phase }, { on := 8, ground := Ground.phase }, { on := 9, ground := Ground.phase }, { on := 10, ground := Ground.phase }, { on := 11, ground := Ground.phase }, { on := 12, ground := Ground.phase }, { on := 13, ground := Ground.phase }, { on := 14, ground := Ground.phase }, { on := 15, ground := Ground.phase }, { on := 16, ground := Ground.phase }, { on := 17, ground := Ground.phase }, { on := 18, ground := Ground.phase }, { on := 19, ground := Ground.phase }, { on := 20, ground := Ground.phase }, { on := 21, ground := Ground.phase }, { on := 22, ground := Ground.phase }, { on := 23, ground := Ground.phase }, { on := 24, ground := Ground.phase }, { on := 25, ground := Ground.phase }, { on := 26, ground := Ground.phase }, { on := 27, ground := Ground.phase }, { on := 28, ground := Ground.phase }, { on := 29, ground := Ground.phase }, { on := 30, ground := Ground.phase }, { on := 31, ground := Ground.phase }, { on := 32, ground := Ground.phase }, { on := 33, ground := Ground.phase }, { on := 34, ground := Ground.phase }, { on := 35, ground := Ground.phase }, { on := 36, ground := Ground.phase }, { on := 37, ground := Ground.phase }, { on := 38, ground := Ground.phase }, { on := 39, ground := Ground.phase }, { on := 40, ground := Ground.phase }, { on := 41, ground := Ground.phase }, { on := 42, ground := Ground.phase }, { on := 43, ground := Ground.phase }, { on := 44, ground := Ground.phase }, { on := 45, ground := Ground.phase }, { on := 46, ground := Ground.phase }, { on := 47, ground := Ground.phase }, { on := 48, ground := Ground.phase }, { on := 49, ground := Ground.phase }, { on := 50, ground := Ground.phase }, { on := 51, ground := Ground.phase }, { on := 52, ground := Ground.phase }, { on := 53, ground := Ground.phase }, { on := 54, ground := Ground.phase }, { on := 55, ground := Ground.phase }, { on := 56, ground := Ground.phase }, { on := 57, ground := Ground.phase }], guard := none } : Oper)) (v := ?_) rfl (by kernel_rfl) (by kernel_rfl) (by kernel_rfl) (fun _ _ _ h => h) (Or.inl ⟨by rfl, ?_⟩) (by assumption) ?_
      rotate_left
      · (intro wz hSw; (try dsimp only at hSw); go_simp; try with_reducible rfl)
      simp only [Act.put, List.setIfInBounds_toArray, List.set_cons_zero, List.set_cons_succ]
      refine wpAnyH_done (by kernel_rfl) ?_ _
      go_wp2
      all_goals (go_ret; exact ⟨rfl, by rw [← HN.out]; exact (g22.2.2.2.2.2.2).out⟩)
end Go.Proofs.Ytpegiljajlljkaa
