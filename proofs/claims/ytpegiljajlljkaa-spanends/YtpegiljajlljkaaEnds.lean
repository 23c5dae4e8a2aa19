import Derived.Test.YtpegiljajlljkaaWd
import Derived.Test.YtpegiljajlljkaaEm
import Derived.Deep.QuietTactic
import Derived.BigQuiet
namespace Go.Proofs.Ytpegiljajlljkaa
open Go.RowKit
/-- what SpanEnds has made ahead of its loops -/
structure En (w W : World) (N p gx gy : Nat) (P Q M : Int × Int) : Prop where
  a : Bx W N P.1 P.2
  b : Bx W (N + 1) Q.1 Q.2
  s : Bx W p M.1 M.2
  x : ∀ i, i < 2 → W.cell? ⟨gx, i, none⟩ = some (.int .i64 (eX P i))
  y : ∀ k, k < 4 → W.cell? ⟨gy, k, none⟩ = some (.int .i64 (eY Q k))
  bel : Below N w W
theorem En.keep {w W W' : World} {N p gx gy : Nat} {P Q M : Int × Int} (h : En w W N p gx gy P Q M) (hb : Below W.heap.size W W') : En w W' N p gx gy P Q M :=
  ⟨h.a.keep hb, h.b.keep hb, h.s.keep hb, fun i hi => (hb.cell (p := ⟨gx, i, none⟩) (World.block_lt_of_cell? W _ (h.x i hi))).trans (h.x i hi), fun k hk => (hb.cell (p := ⟨gy, k, none⟩) (World.block_lt_of_cell? W _ (h.y k hk))).trans (h.y k hk), h.bel.trans (hb.mono (Nat.le_of_lt h.a.lt))⟩
theorem o_bd (op : Int) : 4 ≤ wrap64 (4 + wrap64 ((IntKind.u64.wrap op).tmod 4)) ∧ wrap64 (4 + wrap64 ((IntKind.u64.wrap op).tmod 4)) ≤ 7 := by
  rw [IntKind.wrap_u64]
  have h : 0 ≤ op % 18446744073709551616 := by omega
  rw [Int.tmod_eq_emod_of_nonneg h]
  unfold wrap64
  omega
theorem eX_i64 (a : Int × Int) (i : Nat) (ha : Sp a) : i64 (eX a i) := by unfold Sp at ha; unfold i64 eX; split <;> omega
theorem eY_i64 (a : Int × Int) (i : Nat) (ha : Sp a) : i64 (eY a i) := by unfold Sp at ha; unfold i64 eY; repeat' (first | omega | split)
set_option maxRecDepth 100000 in
set_option maxHeartbeats 32000000 in
theorem sends_walk (op al ah bl bh : Int) (w : World) (h1 : i64 al) (h2 : i64 ah) (h3 : i64 bl) (h4 : i64 bh) : Calls Try.prog 7 #[.int .i64 op, .agg #[.int .i64 al, .int .i64 ah], .agg #[.int .i64 bl, .int .i64 bh]] w fun e w' => e = .returned (.bool true) ∧ Below w.heap.size w w' := by
  have cF := fun w => fix_pair al ah w
  have cG := fun w => fix_pair bl bh w
  have sP := fix_sp al ah h1 h2
  have sQ := fix_sp bl bh h3 h4
  clear h1 h2 h3 h4
  generalize (min al ah, max al ah) = P at *
  generalize (min bl bh, max bl bh) = Q at *
  have x0 : Bz ((w.alloc (.cells #[.int .i64 al, .int .i64 ah] 23)).alloc (.cells #[.int .i64 bl, .int .i64 bh] 23)) w.heap.size al ah := (Bz.new w al ah 23).keep ((Below.refl _ _).alloc (Nat.le_refl _) _)
  have x1 : Bz ((w.alloc (.cells #[.int .i64 al, .int .i64 ah] 23)).alloc (.cells #[.int .i64 bl, .int .i64 bh] 23)) (w.heap.size + 1) bl bh := by simpa using Bz.new (w.alloc (.cells #[.int .i64 al, .int .i64 ah] 23)) bl bh 23
  have x2 : Below w.heap.size w ((w.alloc (.cells #[.int .i64 al, .int .i64 ah] 23)).alloc (.cells #[.int .i64 bl, .int .i64 bh] 23)) := (by repeat (first | exact Below.refl _ _ | (refine Below.drew ?_) | (refine below_drewN ?_ _) | (refine Below.setCell ?_ (by first | omega | (simp; done) | (simp; omega)) _) | (refine Below.alloc ?_ (by first | omega | (simp; done) | (simp; omega)) _) | (refine Below.trans ?_ (Below.mono (by assumption) (by first | omega | (simp; done) | (simp; omega))))))
  go_enter Try.func7, Try.ntmps7
  go_upto_region 1 with fail
  go_name_world W hW
  rw [hW] at x0 x1 x2
  clear hW
  obtain ⟨N, hN⟩ : ∃ N, N = w.heap.size := ⟨_, rfl⟩
  rw [← hN] at x0 x1 x2 ⊢
  have HN : Hid (N = w.heap.size) := hN
  clear hN
  have R : Hid (Bz W N al ah ∧ Bz W (N + 1) bl bh ∧ Below N w W) := ⟨x0, x1, x2⟩
  clear x0 x1 x2
  have HCL : Hid (∀ a b : World, (N + 1 < a.heap.size ∧ Hid (Below N w a)) → Below a.heap.size a b → (N + 1 < b.heap.size ∧ Hid (Below N w b))) := fun a b h hb => ⟨Nat.lt_of_lt_of_le h.1 hb.size, h.2.out.trans (hb.mono (Nat.le_trans (Nat.le_succ _) (Nat.le_of_lt h.1)))⟩
  have HST : Hid (∀ (a : World) (q : Nat) (v u : Value), N ≤ q → (N + 1 < a.heap.size ∧ Hid (Below N w a)) → (N + 1 < ((a.setCell ⟨q, 0, none⟩ v).setCell ⟨q, 1, none⟩ u).heap.size ∧ Hid (Below N w ((a.setCell ⟨q, 0, none⟩ v).setCell ⟨q, 1, none⟩ u)))) := fun a q v u hq h => ⟨by simpa using h.1, (h.2.out.setCell (p := ⟨q, 0, none⟩) hq v).setCell (p := ⟨q, 1, none⟩) hq u⟩
  go_cut [6] (fun v6 wx => v6 = .bool false ∧ Hid (Bz wx N P.1 P.2 ∧ Bz wx (N + 1) Q.1 Q.2 ∧ Below N w wx))
  case first =>
    refine wp_region_held_drew (S := fun w' => N + 1 < w'.heap.size ∧ Hid (Below N w w')) (by kernel_rfl) (HCL.out _ _ ⟨R.out.2.1.1.lt, R.out.2.2⟩ ((Below.refl _ _).drew)) (fun hH0 => ?_)
    have X0 : Bz W.drew N al ah := (R.out.1).keep ((Below.refl _ _).drew)
    have Y0 : Bz W.drew (N + 1) bl bh := (R.out.2.1).keep ((Below.refl _ _).drew)
    obtain ⟨w0, hw0⟩ : ∃ w0, w0 = W.drew := ⟨_, rfl⟩
    rw [← hw0] at hH0 X0 Y0 ⊢
    clear hw0
    refine wpAnyH_ready (rs := [0, 2]) (by kernel_rfl) (by simp) ?_
    refine AllReadyH.cons (o := ({ dst := some 18, op := Op.load 23 (Operand.tmp 4), type := 23, pos := "law.go:102", after := #[], guard := none } : Oper)) rfl (fun K hK => ?_) (AllReadyH.cons (o := ({ dst := some 20, op := Op.load 23 (Operand.tmp 5), type := 23, pos := "law.go:102", after := #[], guard := none } : Oper)) rfl (fun K hK => ?_) AllReadyH.nil)
    · have cX0 := X0.1.1
      have cX1 := X0.1.2
      have cX2 := X0.2.1
      have cX3 := X0.2.2
      have cY0 := Y0.1.1
      have cY1 := Y0.1.2
      have cY2 := Y0.2.1
      have cY3 := Y0.2.2
      go_simp
      refine hK.out _ _ hH0 (fun _ => ?_)
      clear hK K cX0 cX1 cX2 cX3 cY0 cY1 cY2 cY3
      refine wpAnyH_ready (rs := [1, 2]) (by kernel_rfl) (by simp) ?_
      refine AllReadyH.cons (o := ({ dst := some 19, op := Op.call { callee := Callee.value (Operand.func 11), args := #[Operand.tmp 18], argTypes := #[23] }, type := 23, pos := "law.go:102", after := #[{ on := 0, ground := Ground.data }], guard := none } : Oper)) rfl (fun K hK => ?_) (AllReadyH.cons (o := ({ dst := some 20, op := Op.load 23 (Operand.tmp 5), type := 23, pos := "law.go:102", after := #[], guard := none } : Oper)) rfl (fun K hK => ?_) AllReadyH.nil)
      · have cX0 := X0.1.1
        have cX1 := X0.1.2
        have cX2 := X0.2.1
        have cX3 := X0.2.2
        have cY0 := Y0.1.1
        have cY1 := Y0.1.2
        have cY2 := Y0.2.1
        have cY3 := Y0.2.2
        go_simp
        go_at_call 11
        refine (bel2 (cF _)).mono ?_
        rintro e w1 ⟨rfl, hb1⟩
        have X1 := X0.keep hb1
        have Y1 := Y0.keep hb1
        refine hK.out _ _ (HCL.out _ _ hH0 hb1) (fun hH1 => ?_)
        clear hK K cX0 cX1 cX2 cX3 cY0 cY1 cY2 cY3
        refine wpAnyH_ready (rs := [2]) (by kernel_rfl) (by simp) ?_
        refine AllReadyH.cons (o := ({ dst := some 20, op := Op.load 23 (Operand.tmp 5), type := 23, pos := "law.go:102", after := #[], guard := none } : Oper)) rfl (fun K hK => ?_) AllReadyH.nil
        · have cX0 := X1.1.1
          have cX1 := X1.1.2
          have cX2 := X1.2.1
          have cX3 := X1.2.2
          have cY0 := Y1.1.1
          have cY1 := Y1.1.2
          have cY2 := Y1.2.1
          have cY3 := Y1.2.2
          go_simp
          refine hK.out _ _ hH1 (fun _ => ?_)
          clear hK K cX0 cX1 cX2 cX3 cY0 cY1 cY2 cY3
          refine wpAnyH_ready (rs := [3]) (by kernel_rfl) (by simp) ?_
          refine AllReadyH.cons (o := ({ dst := some 21, op := Op.call { callee := Callee.value (Operand.func 11), args := #[Operand.tmp 20], argTypes := #[23] }, type := 23, pos := "law.go:102", after := #[{ on := 2, ground := Ground.data }, { on := 1, ground := Ground.chain }], guard := none } : Oper)) rfl (fun K hK => ?_) AllReadyH.nil
          · have cX0 := X1.1.1
            have cX1 := X1.1.2
            have cX2 := X1.2.1
            have cX3 := X1.2.2
            have cY0 := Y1.1.1
            have cY1 := Y1.1.2
            have cY2 := Y1.2.1
            have cY3 := Y1.2.2
            go_simp
            go_at_call 11
            refine (bel2 (cG _)).mono ?_
            rintro e w2 ⟨rfl, hb2⟩
            have X2 := X1.keep hb2
            have Y2 := Y1.keep hb2
            refine hK.out _ _ (HCL.out _ _ hH1 hb2) (fun hH2 => ?_)
            clear hK K cX0 cX1 cX2 cX3 cY0 cY1 cY2 cY3
            refine wpAnyH_ready (rs := [4]) (by kernel_rfl) (by simp) ?_
            refine AllReadyH.cons (o := ({ dst := none, op := Op.store 23 (Operand.tmp 4) (Operand.tmp 19), type := 0, pos := "law.go:102", after := #[{ on := 1, ground := Ground.data }, { on := 3, ground := Ground.chain }, { on := 0, ground := Ground.phase }, { on := 1, ground := Ground.phase }, { on := 2, ground := Ground.textOnly Departure.lateStores }, { on := 3, ground := Ground.textOnly Departure.lateStoresUnsure }], guard := none } : Oper)) rfl (fun K hK => ?_) AllReadyH.nil
            · have cX0 := X2.1.1
              have cX1 := X2.1.2
              have cX2 := X2.2.1
              have cX3 := X2.2.2
              have cY0 := Y2.1.1
              have cY1 := Y2.1.2
              have cY2 := Y2.2.1
              have cY3 := Y2.2.2
              go_simp
              have X3 := X2.wrote (x' := P.1) (y' := P.2)
              have Y3 := Y2.set' (q := N) (by omega) (.int .i64 P.1) (.int .i64 P.2)
              refine hK.out _ _ (HST.out _ (N) _ _ (by omega) hH2) (fun hH3 => ?_)
              clear hK K cX0 cX1 cX2 cX3 cY0 cY1 cY2 cY3
              obtain ⟨w3, hw3⟩ : ∃ w3, w3 = ((w2.setCell ⟨N, 0, none⟩ (.int .i64 P.1)).setCell ⟨N, 1, none⟩ (.int .i64 P.2)) := ⟨_, rfl⟩
              rw [← hw3] at hH3 X3 Y3 ⊢
              clear hw3
              refine wpAnyH_ready (rs := [5]) (by kernel_rfl) (by simp) ?_
              refine AllReadyH.cons (o := ({ dst := none, op := Op.store 23 (Operand.tmp 5) (Operand.tmp 21), type := 0, pos := "law.go:102", after := #[{ on := 3, ground := Ground.data }, { on := 4, ground := Ground.chain }, { on := 0, ground := Ground.phase }, { on := 1, ground := Ground.phase }, { on := 2, ground := Ground.phase }, { on := 3, ground := Ground.phase }, { on := 4, ground := Ground.phase }], guard := none } : Oper)) rfl (fun K hK => ?_) AllReadyH.nil
              · have cX0 := X3.1.1
                have cX1 := X3.1.2
                have cX2 := X3.2.1
                have cX3 := X3.2.2
                have cY0 := Y3.1.1
                have cY1 := Y3.1.2
                have cY2 := Y3.2.1
                have cY3 := Y3.2.2
                go_simp
                have Y4 := Y3.wrote (x' := Q.1) (y' := Q.2)
                have X4 := X3.set' (q := (N + 1)) (by omega) (.int .i64 Q.1) (.int .i64 Q.2)
                refine hK.out _ _ (HST.out _ ((N + 1)) _ _ (by omega) hH3) (fun hH4 => ?_)
                clear hK K cX0 cX1 cX2 cX3 cY0 cY1 cY2 cY3
                obtain ⟨w4, hw4⟩ : ∃ w4, w4 = ((w3.setCell ⟨(N + 1), 0, none⟩ (.int .i64 Q.1)).setCell ⟨(N + 1), 1, none⟩ (.int .i64 Q.2)) := ⟨_, rfl⟩
                rw [← hw4] at hH4 X4 Y4 ⊢
                clear hw4
                refine wpAnyH_done (by kernel_rfl) ?_ _
                go_wp2
                go_meet
                case rel => exact ⟨rfl, X4, Y4, hH4.2.out⟩
      · have cX0 := X0.1.1
        have cX1 := X0.1.2
        have cX2 := X0.2.1
        have cX3 := X0.2.2
        have cY0 := Y0.1.1
        have cY1 := Y0.1.2
        have cY2 := Y0.2.1
        have cY3 := Y0.2.2
        go_simp
        refine hK.out _ _ hH0 (fun _ => ?_)
        clear hK K cX0 cX1 cX2 cX3 cY0 cY1 cY2 cY3
        refine wpAnyH_ready (rs := [1]) (by kernel_rfl) (by simp) ?_
        refine AllReadyH.cons (o := ({ dst := some 19, op := Op.call { callee := Callee.value (Operand.func 11), args := #[Operand.tmp 18], argTypes := #[23] }, type := 23, pos := "law.go:102", after := #[{ on := 0, ground := Ground.data }], guard := none } : Oper)) rfl (fun K hK => ?_) AllReadyH.nil
        · have cX0 := X0.1.1
          have cX1 := X0.1.2
          have cX2 := X0.2.1
          have cX3 := X0.2.2
          have cY0 := Y0.1.1
          have cY1 := Y0.1.2
          have cY2 := Y0.2.1
          have cY3 := Y0.2.2
          go_simp
          go_at_call 11
          refine (bel2 (cF _)).mono ?_
          rintro e w1 ⟨rfl, hb1⟩
          have X1 := X0.keep hb1
          have Y1 := Y0.keep hb1
          refine hK.out _ _ (HCL.out _ _ hH0 hb1) (fun hH1 => ?_)
          clear hK K cX0 cX1 cX2 cX3 cY0 cY1 cY2 cY3
          refine wpAnyH_ready (rs := [3]) (by kernel_rfl) (by simp) ?_
          refine AllReadyH.cons (o := ({ dst := some 21, op := Op.call { callee := Callee.value (Operand.func 11), args := #[Operand.tmp 20], argTypes := #[23] }, type := 23, pos := "law.go:102", after := #[{ on := 2, ground := Ground.data }, { on := 1, ground := Ground.chain }], guard := none } : Oper)) rfl (fun K hK => ?_) AllReadyH.nil
          · have cX0 := X1.1.1
            have cX1 := X1.1.2
            have cX2 := X1.2.1
            have cX3 := X1.2.2
            have cY0 := Y1.1.1
            have cY1 := Y1.1.2
            have cY2 := Y1.2.1
            have cY3 := Y1.2.2
            go_simp
            go_at_call 11
            refine (bel2 (cG _)).mono ?_
            rintro e w2 ⟨rfl, hb2⟩
            have X2 := X1.keep hb2
            have Y2 := Y1.keep hb2
            refine hK.out _ _ (HCL.out _ _ hH1 hb2) (fun hH2 => ?_)
            clear hK K cX0 cX1 cX2 cX3 cY0 cY1 cY2 cY3
            refine wpAnyH_ready (rs := [4]) (by kernel_rfl) (by simp) ?_
            refine AllReadyH.cons (o := ({ dst := none, op := Op.store 23 (Operand.tmp 4) (Operand.tmp 19), type := 0, pos := "law.go:102", after := #[{ on := 1, ground := Ground.data }, { on := 3, ground := Ground.chain }, { on := 0, ground := Ground.phase }, { on := 1, ground := Ground.phase }, { on := 2, ground := Ground.textOnly Departure.lateStores }, { on := 3, ground := Ground.textOnly Departure.lateStoresUnsure }], guard := none } : Oper)) rfl (fun K hK => ?_) AllReadyH.nil
            · have cX0 := X2.1.1
              have cX1 := X2.1.2
              have cX2 := X2.2.1
              have cX3 := X2.2.2
              have cY0 := Y2.1.1
              have cY1 := Y2.1.2
              have cY2 := Y2.2.1
              have cY3 := Y2.2.2
              go_simp
              have X3 := X2.wrote (x' := P.1) (y' := P.2)
              have Y3 := Y2.set' (q := N) (by omega) (.int .i64 P.1) (.int .i64 P.2)
              refine hK.out _ _ (HST.out _ (N) _ _ (by omega) hH2) (fun hH3 => ?_)
              clear hK K cX0 cX1 cX2 cX3 cY0 cY1 cY2 cY3
              obtain ⟨w3, hw3⟩ : ∃ w3, w3 = ((w2.setCell ⟨N, 0, none⟩ (.int .i64 P.1)).setCell ⟨N, 1, none⟩ (.int .i64 P.2)) := ⟨_, rfl⟩
              rw [← hw3] at hH3 X3 Y3 ⊢
              clear hw3
              refine wpAnyH_ready (rs := [5]) (by kernel_rfl) (by simp) ?_
              refine AllReadyH.cons (o := ({ dst := none, op := Op.store 23 (Operand.tmp 5) (Operand.tmp 21), type := 0, pos := "law.go:102", after := #[{ on := 3, ground := Ground.data }, { on := 4, ground := Ground.chain }, { on := 0, ground := Ground.phase }, { on := 1, ground := Ground.phase }, { on := 2, ground := Ground.phase }, { on := 3, ground := Ground.phase }, { on := 4, ground := Ground.phase }], guard := none } : Oper)) rfl (fun K hK => ?_) AllReadyH.nil
              · have cX0 := X3.1.1
                have cX1 := X3.1.2
                have cX2 := X3.2.1
                have cX3 := X3.2.2
                have cY0 := Y3.1.1
                have cY1 := Y3.1.2
                have cY2 := Y3.2.1
                have cY3 := Y3.2.2
                go_simp
                have Y4 := Y3.wrote (x' := Q.1) (y' := Q.2)
                have X4 := X3.set' (q := (N + 1)) (by omega) (.int .i64 Q.1) (.int .i64 Q.2)
                refine hK.out _ _ (HST.out _ ((N + 1)) _ _ (by omega) hH3) (fun hH4 => ?_)
                clear hK K cX0 cX1 cX2 cX3 cY0 cY1 cY2 cY3
                obtain ⟨w4, hw4⟩ : ∃ w4, w4 = ((w3.setCell ⟨(N + 1), 0, none⟩ (.int .i64 Q.1)).setCell ⟨(N + 1), 1, none⟩ (.int .i64 Q.2)) := ⟨_, rfl⟩
                rw [← hw4] at hH4 X4 Y4 ⊢
                clear hw4
                refine wpAnyH_done (by kernel_rfl) ?_ _
                go_wp2
                go_meet
                case rel => exact ⟨rfl, X4, Y4, hH4.2.out⟩
    · have cX0 := X0.1.1
      have cX1 := X0.1.2
      have cX2 := X0.2.1
      have cX3 := X0.2.2
      have cY0 := Y0.1.1
      have cY1 := Y0.1.2
      have cY2 := Y0.2.1
      have cY3 := Y0.2.2
      go_simp
      refine hK.out _ _ hH0 (fun _ => ?_)
      clear hK K cX0 cX1 cX2 cX3 cY0 cY1 cY2 cY3
      refine wpAnyH_ready (rs := [0]) (by kernel_rfl) (by simp) ?_
      refine AllReadyH.cons (o := ({ dst := some 18, op := Op.load 23 (Operand.tmp 4), type := 23, pos := "law.go:102", after := #[], guard := none } : Oper)) rfl (fun K hK => ?_) AllReadyH.nil
      · have cX0 := X0.1.1
        have cX1 := X0.1.2
        have cX2 := X0.2.1
        have cX3 := X0.2.2
        have cY0 := Y0.1.1
        have cY1 := Y0.1.2
        have cY2 := Y0.2.1
        have cY3 := Y0.2.2
        go_simp
        refine hK.out _ _ hH0 (fun _ => ?_)
        clear hK K cX0 cX1 cX2 cX3 cY0 cY1 cY2 cY3
        refine wpAnyH_ready (rs := [1]) (by kernel_rfl) (by simp) ?_
        refine AllReadyH.cons (o := ({ dst := some 19, op := Op.call { callee := Callee.value (Operand.func 11), args := #[Operand.tmp 18], argTypes := #[23] }, type := 23, pos := "law.go:102", after := #[{ on := 0, ground := Ground.data }], guard := none } : Oper)) rfl (fun K hK => ?_) AllReadyH.nil
        · have cX0 := X0.1.1
          have cX1 := X0.1.2
          have cX2 := X0.2.1
          have cX3 := X0.2.2
          have cY0 := Y0.1.1
          have cY1 := Y0.1.2
          have cY2 := Y0.2.1
          have cY3 := Y0.2.2
          go_simp
          go_at_call 11
          refine (bel2 (cF _)).mono ?_
          rintro e w1 ⟨rfl, hb1⟩
          have X1 := X0.keep hb1
          have Y1 := Y0.keep hb1
          refine hK.out _ _ (HCL.out _ _ hH0 hb1) (fun hH1 => ?_)
          clear hK K cX0 cX1 cX2 cX3 cY0 cY1 cY2 cY3
          refine wpAnyH_ready (rs := [3]) (by kernel_rfl) (by simp) ?_
          refine AllReadyH.cons (o := ({ dst := some 21, op := Op.call { callee := Callee.value (Operand.func 11), args := #[Operand.tmp 20], argTypes := #[23] }, type := 23, pos := "law.go:102", after := #[{ on := 2, ground := Ground.data }, { on := 1, ground := Ground.chain }], guard := none } : Oper)) rfl (fun K hK => ?_) AllReadyH.nil
          · have cX0 := X1.1.1
            have cX1 := X1.1.2
            have cX2 := X1.2.1
            have cX3 := X1.2.2
            have cY0 := Y1.1.1
            have cY1 := Y1.1.2
            have cY2 := Y1.2.1
            have cY3 := Y1.2.2
            go_simp
            go_at_call 11
            refine (bel2 (cG _)).mono ?_
            rintro e w2 ⟨rfl, hb2⟩
            have X2 := X1.keep hb2
            have Y2 := Y1.keep hb2
            refine hK.out _ _ (HCL.out _ _ hH1 hb2) (fun hH2 => ?_)
            clear hK K cX0 cX1 cX2 cX3 cY0 cY1 cY2 cY3
            refine wpAnyH_ready (rs := [4]) (by kernel_rfl) (by simp) ?_
            refine AllReadyH.cons (o := ({ dst := none, op := Op.store 23 (Operand.tmp 4) (Operand.tmp 19), type := 0, pos := "law.go:102", after := #[{ on := 1, ground := Ground.data }, { on := 3, ground := Ground.chain }, { on := 0, ground := Ground.phase }, { on := 1, ground := Ground.phase }, { on := 2, ground := Ground.textOnly Departure.lateStores }, { on := 3, ground := Ground.textOnly Departure.lateStoresUnsure }], guard := none } : Oper)) rfl (fun K hK => ?_) AllReadyH.nil
            · have cX0 := X2.1.1
              have cX1 := X2.1.2
              have cX2 := X2.2.1
              have cX3 := X2.2.2
              have cY0 := Y2.1.1
              have cY1 := Y2.1.2
              have cY2 := Y2.2.1
              have cY3 := Y2.2.2
              go_simp
              have X3 := X2.wrote (x' := P.1) (y' := P.2)
              have Y3 := Y2.set' (q := N) (by omega) (.int .i64 P.1) (.int .i64 P.2)
              refine hK.out _ _ (HST.out _ (N) _ _ (by omega) hH2) (fun hH3 => ?_)
              clear hK K cX0 cX1 cX2 cX3 cY0 cY1 cY2 cY3
              obtain ⟨w3, hw3⟩ : ∃ w3, w3 = ((w2.setCell ⟨N, 0, none⟩ (.int .i64 P.1)).setCell ⟨N, 1, none⟩ (.int .i64 P.2)) := ⟨_, rfl⟩
              rw [← hw3] at hH3 X3 Y3 ⊢
              clear hw3
              refine wpAnyH_ready (rs := [5]) (by kernel_rfl) (by simp) ?_
              refine AllReadyH.cons (o := ({ dst := none, op := Op.store 23 (Operand.tmp 5) (Operand.tmp 21), type := 0, pos := "law.go:102", after := #[{ on := 3, ground := Ground.data }, { on := 4, ground := Ground.chain }, { on := 0, ground := Ground.phase }, { on := 1, ground := Ground.phase }, { on := 2, ground := Ground.phase }, { on := 3, ground := Ground.phase }, { on := 4, ground := Ground.phase }], guard := none } : Oper)) rfl (fun K hK => ?_) AllReadyH.nil
              · have cX0 := X3.1.1
                have cX1 := X3.1.2
                have cX2 := X3.2.1
                have cX3 := X3.2.2
                have cY0 := Y3.1.1
                have cY1 := Y3.1.2
                have cY2 := Y3.2.1
                have cY3 := Y3.2.2
                go_simp
                have Y4 := Y3.wrote (x' := Q.1) (y' := Q.2)
                have X4 := X3.set' (q := (N + 1)) (by omega) (.int .i64 Q.1) (.int .i64 Q.2)
                refine hK.out _ _ (HST.out _ ((N + 1)) _ _ (by omega) hH3) (fun hH4 => ?_)
                clear hK K cX0 cX1 cX2 cX3 cY0 cY1 cY2 cY3
                obtain ⟨w4, hw4⟩ : ∃ w4, w4 = ((w3.setCell ⟨(N + 1), 0, none⟩ (.int .i64 Q.1)).setCell ⟨(N + 1), 1, none⟩ (.int .i64 Q.2)) := ⟨_, rfl⟩
                rw [← hw4] at hH4 X4 Y4 ⊢
                clear hw4
                refine wpAnyH_done (by kernel_rfl) ?_ _
                go_wp2
                go_meet
                case rel => exact ⟨rfl, X4, Y4, hH4.2.out⟩
  case rest =>
    obtain ⟨rfl, HH⟩ := hcut
    clear R HCL HST cF cG
    go_upto_region 3 with fail
    obtain ⟨oo, hoo⟩ : ∃ oo, oo = wrap64 (4 + wrap64 ((IntKind.u64.wrap op).tmod 4)) := ⟨_, rfl⟩
    have ho := o_bd op
    rw [← hoo] at ho ⊢
    clear hoo
    have HCL : Hid (∀ a b : World, (a.cell? ⟨N, 0, none⟩ = some (.int .i64 P.1) ∧ a.cell? ⟨N, 1, none⟩ = some (.int .i64 P.2) ∧ N < a.heap.size ∧ a.cell? ⟨(N + 1), 0, none⟩ = some (.int .i64 Q.1) ∧ a.cell? ⟨(N + 1), 1, none⟩ = some (.int .i64 Q.2) ∧ (N + 1) < a.heap.size ∧ Hid (Below N w a)) → Below a.heap.size a b → (b.cell? ⟨N, 0, none⟩ = some (.int .i64 P.1) ∧ b.cell? ⟨N, 1, none⟩ = some (.int .i64 P.2) ∧ N < b.heap.size ∧ b.cell? ⟨(N + 1), 0, none⟩ = some (.int .i64 Q.1) ∧ b.cell? ⟨(N + 1), 1, none⟩ = some (.int .i64 Q.2) ∧ (N + 1) < b.heap.size ∧ Hid (Below N w b))) := fun a b h hb => by
      have x0 := Bx.keep ⟨h.1, h.2.1⟩ hb
      have x1 := Bx.keep ⟨h.2.2.2.1, h.2.2.2.2.1⟩ hb
      exact ⟨x0.1, x0.2, x0.lt, x1.1, x1.2, x1.lt, (h.2.2.2.2.2.2).out.trans (hb.mono (Nat.le_of_lt h.2.2.1))⟩
    have HST : Hid (∀ (a : World) (q : Nat) (v u : Value), N + 1 < q → (a.cell? ⟨N, 0, none⟩ = some (.int .i64 P.1) ∧ a.cell? ⟨N, 1, none⟩ = some (.int .i64 P.2) ∧ N < a.heap.size ∧ a.cell? ⟨(N + 1), 0, none⟩ = some (.int .i64 Q.1) ∧ a.cell? ⟨(N + 1), 1, none⟩ = some (.int .i64 Q.2) ∧ (N + 1) < a.heap.size ∧ Hid (Below N w a)) → (((a.setCell ⟨q, 0, none⟩ v).setCell ⟨q, 1, none⟩ u).cell? ⟨N, 0, none⟩ = some (.int .i64 P.1) ∧ ((a.setCell ⟨q, 0, none⟩ v).setCell ⟨q, 1, none⟩ u).cell? ⟨N, 1, none⟩ = some (.int .i64 P.2) ∧ N < ((a.setCell ⟨q, 0, none⟩ v).setCell ⟨q, 1, none⟩ u).heap.size ∧ ((a.setCell ⟨q, 0, none⟩ v).setCell ⟨q, 1, none⟩ u).cell? ⟨(N + 1), 0, none⟩ = some (.int .i64 Q.1) ∧ ((a.setCell ⟨q, 0, none⟩ v).setCell ⟨q, 1, none⟩ u).cell? ⟨(N + 1), 1, none⟩ = some (.int .i64 Q.2) ∧ (N + 1) < ((a.setCell ⟨q, 0, none⟩ v).setCell ⟨q, 1, none⟩ u).heap.size ∧ Hid (Below N w ((a.setCell ⟨q, 0, none⟩ v).setCell ⟨q, 1, none⟩ u)))) := fun a q v u hq h => by
      have x0 := Bx.set' (q := q) (p := N) (by omega) ⟨h.1, h.2.1⟩ v u
      have x1 := Bx.set' (q := q) (p := (N + 1)) (by omega) ⟨h.2.2.2.1, h.2.2.2.2.1⟩ v u
      exact ⟨x0.1, x0.2, x0.lt, x1.1, x1.2, x1.lt, ((h.2.2.2.2.2.2).out.setCell (p := ⟨q, 0, none⟩) (show N ≤ q by omega) v).setCell (p := ⟨q, 1, none⟩) (show N ≤ q by omega) u⟩
    have hS0 : wc.cell? ⟨N, 0, none⟩ = some (.int .i64 P.1) ∧ wc.cell? ⟨N, 1, none⟩ = some (.int .i64 P.2) ∧ N < wc.heap.size ∧ wc.cell? ⟨(N + 1), 0, none⟩ = some (.int .i64 Q.1) ∧ wc.cell? ⟨(N + 1), 1, none⟩ = some (.int .i64 Q.2) ∧ (N + 1) < wc.heap.size ∧ Hid (Below N w wc) := ⟨HH.out.1.1.1, HH.out.1.1.2, HH.out.1.1.lt, HH.out.2.1.1.1, HH.out.2.1.1.2, HH.out.2.1.1.lt, HH.out.2.2⟩
    clear HH
    go_cut [8, 9] (fun v8 v9 wy => ∃ p, v8 = .pointer (some ⟨p, 0, none⟩) ∧ v9 = .bool (twoP oo P Q).2 ∧ Hid (Bx wy N P.1 P.2 ∧ Bx wy (N + 1) Q.1 Q.2 ∧ Bx wy p (twoP oo P Q).1.1 (twoP oo P Q).1.2 ∧ Below N w wy))
    case first =>
      refine wp_region_held_drew (S := fun w' => w'.cell? ⟨N, 0, none⟩ = some (.int .i64 P.1) ∧ w'.cell? ⟨N, 1, none⟩ = some (.int .i64 P.2) ∧ N < w'.heap.size ∧ w'.cell? ⟨(N + 1), 0, none⟩ = some (.int .i64 Q.1) ∧ w'.cell? ⟨(N + 1), 1, none⟩ = some (.int .i64 Q.2) ∧ (N + 1) < w'.heap.size ∧ Hid (Below N w w')) (by kernel_rfl) (HCL.out _ _ hS0 ((Below.refl _ _).drew)) (fun hH0 => ?_)
      obtain ⟨w0, hw0⟩ : ∃ w0, w0 = wc.drew := ⟨_, rfl⟩
      rw [← hw0] at hH0 ⊢
      clear hw0
      refine wpAnyH_take (i := 0) (oi := ({ dst := some 28, op := Op.move (Operand.tmp 7), type := 3, pos := "law.go:104", after := #[], guard := none } : Oper)) (v := ?_) rfl (by kernel_rfl) (by kernel_rfl) (by kernel_rfl) (fun _ _ _ h => h) (Or.inl ⟨by rfl, ?_⟩) (by assumption) ?_
      rotate_left
      · (intro wz hSw; (try dsimp only at hSw); go_simp; try with_reducible rfl)
      simp only [Act.put, List.setIfInBounds_toArray, List.set_cons_zero, List.set_cons_succ]
      refine wpAnyH_take (i := 1) (oi := ({ dst := some 29, op := Op.load 23 (Operand.tmp 4), type := 23, pos := "law.go:104", after := #[], guard := none } : Oper)) (v := ?_) rfl (by kernel_rfl) (by kernel_rfl) (by kernel_rfl) (fun _ _ _ h => h) (Or.inl ⟨by rfl, ?_⟩) (by assumption) ?_
      rotate_left
      · (intro wz hSw; (try dsimp only at hSw); go_simp; try with_reducible rfl)
      simp only [Act.put, List.setIfInBounds_toArray, List.set_cons_zero, List.set_cons_succ]
      refine wpAnyH_take (i := 3) (oi := ({ dst := some 31, op := Op.load 23 (Operand.tmp 5), type := 23, pos := "law.go:104", after := #[], guard := none } : Oper)) (v := ?_) rfl (by kernel_rfl) (by kernel_rfl) (by kernel_rfl) (fun _ _ _ h => h) (Or.inl ⟨by rfl, ?_⟩) (by assumption) ?_
      rotate_left
      · (intro wz hSw; (try dsimp only at hSw); go_simp; try with_reducible rfl)
      simp only [Act.put, List.setIfInBounds_toArray, List.set_cons_zero, List.set_cons_succ]
      refine wpAnyH_ready (rs := [2, 9]) (by kernel_rfl) (by simp) ?_
      refine AllReadyH.cons (o := ({ dst := some 30, op := Op.call { callee := Callee.value (Operand.func 10), args := #[Operand.tmp 29], argTypes := #[23] }, type := 25, pos := "law.go:104", after := #[{ on := 1, ground := Ground.data }], guard := none } : Oper)) rfl (fun K hK => ?_) (AllReadyH.cons (o := ({ dst := some 8, op := Op.alloc 25, type := 0, pos := "law.go:104", after := #[], guard := none } : Oper)) rfl (fun K hK => ?_) AllReadyH.nil)
      · go_simp
        go_at_call 10
        refine (bel2 (to_any _ _ _)).mono ?_
        rintro e w1 ⟨rfl, hb1⟩
        refine hK.out _ _ (HCL.out _ _ hH0 hb1) (fun hH1 => ?_)
        clear hK K
        refine wpAnyH_ready (rs := [4, 9]) (by kernel_rfl) (by simp) ?_
        refine AllReadyH.cons (o := ({ dst := some 32, op := Op.call { callee := Callee.value (Operand.func 10), args := #[Operand.tmp 31], argTypes := #[23] }, type := 25, pos := "law.go:104", after := #[{ on := 3, ground := Ground.data }, { on := 2, ground := Ground.chain }], guard := none } : Oper)) rfl (fun K hK => ?_) (AllReadyH.cons (o := ({ dst := some 8, op := Op.alloc 25, type := 0, pos := "law.go:104", after := #[], guard := none } : Oper)) rfl (fun K hK => ?_) AllReadyH.nil)
        · go_simp
          go_at_call 10
          refine (bel2 (to_any _ _ _)).mono ?_
          rintro e w2 ⟨rfl, hb2⟩
          refine hK.out _ _ (HCL.out _ _ hH1 hb2) (fun hH2 => ?_)
          clear hK K
          refine wpAnyH_ready (rs := [5, 9]) (by kernel_rfl) (by simp) ?_
          refine AllReadyH.cons (o := ({ dst := some 33, op := Op.call { callee := Callee.value (Operand.func 29), args := #[Operand.tmp 28, Operand.tmp 30, Operand.tmp 32], argTypes := #[3, 25, 25] }, type := 28, pos := "law.go:104", after := #[{ on := 0, ground := Ground.data }, { on := 2, ground := Ground.data }, { on := 4, ground := Ground.data }, { on := 4, ground := Ground.chain }], guard := none } : Oper)) rfl (fun K hK => ?_) (AllReadyH.cons (o := ({ dst := some 8, op := Op.alloc 25, type := 0, pos := "law.go:104", after := #[], guard := none } : Oper)) rfl (fun K hK => ?_) AllReadyH.nil)
          · go_simp
            go_at_call 29
            refine (two_any oo P Q _ sP sQ).mono ?_
            rintro e w3 ⟨rfl, hb3⟩
            refine hK.out _ _ (HCL.out _ _ hH2 hb3) (fun hH3 => ?_)
            clear hK K
            refine wpAnyH_take (i := 6) (oi := ({ dst := some 27, op := Op.move (Operand.tmp 33), type := 28, pos := "law.go:104", after := #[{ on := 5, ground := Ground.data }], guard := none } : Oper)) (v := ?_) rfl (by kernel_rfl) (by kernel_rfl) (by kernel_rfl) (fun _ _ _ h => h) (Or.inl ⟨by rfl, ?_⟩) (by assumption) ?_
            rotate_left
            · (intro wz hSw; (try dsimp only at hSw); go_simp; try with_reducible rfl)
            simp only [Act.put, List.setIfInBounds_toArray, List.set_cons_zero, List.set_cons_succ]
            refine wpAnyH_take (i := 7) (oi := ({ dst := some 34, op := Op.extract (Operand.tmp 27) 0, type := 25, pos := "law.go:104", after := #[{ on := 6, ground := Ground.data }], guard := none } : Oper)) (v := ?_) rfl (by kernel_rfl) (by kernel_rfl) (by kernel_rfl) (fun _ _ _ h => h) (Or.inl ⟨by rfl, ?_⟩) (by assumption) ?_
            rotate_left
            · (intro wz hSw; (try dsimp only at hSw); go_simp; try with_reducible rfl)
            simp only [Act.put, List.setIfInBounds_toArray, List.set_cons_zero, List.set_cons_succ]
            refine wpAnyH_take (i := 8) (oi := ({ dst := some 35, op := Op.extract (Operand.tmp 27) 1, type := 4, pos := "law.go:104", after := #[{ on := 6, ground := Ground.data }, { on := 10, ground := Ground.gcOnly Departure.lateStores }], guard := none } : Oper)) (v := ?_) rfl (by kernel_rfl) (by kernel_rfl) (by kernel_rfl) (fun _ _ _ h => h) (Or.inl ⟨by rfl, ?_⟩) (by assumption) ?_
            rotate_left
            · (intro wz hSw; (try dsimp only at hSw); go_simp; try with_reducible rfl)
            simp only [Act.put, List.setIfInBounds_toArray, List.set_cons_zero, List.set_cons_succ]
            refine wpAnyH_ready (rs := [9]) (by kernel_rfl) (by simp) ?_
            refine AllReadyH.cons (o := ({ dst := some 8, op := Op.alloc 25, type := 0, pos := "law.go:104", after := #[], guard := none } : Oper)) rfl (fun K hK => ?_) AllReadyH.nil
            · go_simp
              have hb4 : Below w3.heap.size w3 (w3.alloc (.cells #[.int .i64 0, .int .i64 0] 25)) := (Below.refl _ _).alloc (Nat.le_refl _) _
              have M4 := Bz.new w3 0 0 25
              have neM : N + 1 < w3.heap.size := hH3.2.2.2.2.2.1
              refine hK.out _ _ (HCL.out _ _ hH3 hb4) (fun hH4 => ?_)
              clear hK K
              obtain ⟨w4, hw4⟩ : ∃ w4, w4 = (w3.alloc (.cells #[.int .i64 0, .int .i64 0] 25)) := ⟨_, rfl⟩
              rw [← hw4] at hH4 M4 ⊢
              clear hw4
              generalize w3.heap.size = kM at *
              refine wpAnyH_ready (rs := [10]) (by kernel_rfl) (by simp) ?_
              refine AllReadyH.cons (o := ({ dst := none, op := Op.store 25 (Operand.tmp 8) (Operand.tmp 34), type := 0, pos := "law.go:104", after := #[{ on := 9, ground := Ground.data }, { on := 7, ground := Ground.data }, { on := 5, ground := Ground.chain }, { on := 0, ground := Ground.phase }, { on := 1, ground := Ground.phase }, { on := 2, ground := Ground.phase }, { on := 3, ground := Ground.phase }, { on := 4, ground := Ground.phase }, { on := 5, ground := Ground.phase }, { on := 6, ground := Ground.phase }, { on := 7, ground := Ground.phase }, { on := 8, ground := Ground.textOnly Departure.lateStores }, { on := 9, ground := Ground.phase }], guard := none } : Oper)) rfl (fun K hK => ?_) AllReadyH.nil
              · have c0 := M4.1.1
                have c1 := M4.1.2
                have c2 := M4.2.1
                have c3 := M4.2.2
                go_simp
                have M5 := M4.wrote (x' := (twoP oo P Q).1.1) (y' := (twoP oo P Q).1.2)
                refine hK.out _ _ (HST.out _ kM _ _ (by omega) hH4) (fun hH5 => ?_)
                clear hK K c0 c1 c2 c3
                obtain ⟨w5, hw5⟩ : ∃ w5, w5 = ((w4.setCell ⟨kM, 0, none⟩ (.int .i64 (twoP oo P Q).1.1)).setCell ⟨kM, 1, none⟩ (.int .i64 (twoP oo P Q).1.2)) := ⟨_, rfl⟩
                rw [← hw5] at hH5 M5 ⊢
                clear hw5
                refine wpAnyH_take (i := 11) (oi := ({ dst := some 9, op := Op.assign (Operand.tmp 35), type := 4, pos := "law.go:104", after := #[{ on := 8, ground := Ground.data }, { on := 10, ground := Ground.chain }, { on := 0, ground := Ground.phase }, { on := 1, ground := Ground.phase }, { on := 2, ground := Ground.phase }, { on := 3, ground := Ground.phase }, { on := 4, ground := Ground.phase }, { on := 5, ground := Ground.phase }, { on := 6, ground := Ground.phase }, { on := 7, ground := Ground.phase }, { on := 8, ground := Ground.phase }, { on := 9, ground := Ground.phase }, { on := 10, ground := Ground.phase }], guard := none } : Oper)) (v := ?_) rfl (by kernel_rfl) (by kernel_rfl) (by kernel_rfl) (fun _ _ _ h => h) (Or.inl ⟨by rfl, ?_⟩) (by assumption) ?_
                rotate_left
                · (intro wz hSw; (try dsimp only at hSw); go_simp; try with_reducible rfl)
                simp only [Act.put, List.setIfInBounds_toArray, List.set_cons_zero, List.set_cons_succ]
                refine wpAnyH_done (by kernel_rfl) ?_ _
                go_wp2
                go_meet
                case rel => exact ⟨_, rfl, rfl, ⟨hH5.1, hH5.2.1⟩, ⟨hH5.2.2.2.1, hH5.2.2.2.2.1⟩, M5.1, hH5.2.2.2.2.2.2.out⟩
          · go_simp
            have hb3 : Below w2.heap.size w2 (w2.alloc (.cells #[.int .i64 0, .int .i64 0] 25)) := (Below.refl _ _).alloc (Nat.le_refl _) _
            have M3 := Bz.new w2 0 0 25
            have neM : N + 1 < w2.heap.size := hH2.2.2.2.2.2.1
            refine hK.out _ _ (HCL.out _ _ hH2 hb3) (fun hH3 => ?_)
            clear hK K
            obtain ⟨w3, hw3⟩ : ∃ w3, w3 = (w2.alloc (.cells #[.int .i64 0, .int .i64 0] 25)) := ⟨_, rfl⟩
            rw [← hw3] at hH3 M3 ⊢
            clear hw3
            generalize w2.heap.size = kM at *
            refine wpAnyH_ready (rs := [5]) (by kernel_rfl) (by simp) ?_
            refine AllReadyH.cons (o := ({ dst := some 33, op := Op.call { callee := Callee.value (Operand.func 29), args := #[Operand.tmp 28, Operand.tmp 30, Operand.tmp 32], argTypes := #[3, 25, 25] }, type := 28, pos := "law.go:104", after := #[{ on := 0, ground := Ground.data }, { on := 2, ground := Ground.data }, { on := 4, ground := Ground.data }, { on := 4, ground := Ground.chain }], guard := none } : Oper)) rfl (fun K hK => ?_) AllReadyH.nil
            · go_simp
              go_at_call 29
              refine (two_any oo P Q _ sP sQ).mono ?_
              rintro e w4 ⟨rfl, hb4⟩
              have M4 := M3.keep hb4
              refine hK.out _ _ (HCL.out _ _ hH3 hb4) (fun hH4 => ?_)
              clear hK K
              refine wpAnyH_take (i := 6) (oi := ({ dst := some 27, op := Op.move (Operand.tmp 33), type := 28, pos := "law.go:104", after := #[{ on := 5, ground := Ground.data }], guard := none } : Oper)) (v := ?_) rfl (by kernel_rfl) (by kernel_rfl) (by kernel_rfl) (fun _ _ _ h => h) (Or.inl ⟨by rfl, ?_⟩) (by assumption) ?_
              rotate_left
              · (intro wz hSw; (try dsimp only at hSw); go_simp; try with_reducible rfl)
              simp only [Act.put, List.setIfInBounds_toArray, List.set_cons_zero, List.set_cons_succ]
              refine wpAnyH_take (i := 7) (oi := ({ dst := some 34, op := Op.extract (Operand.tmp 27) 0, type := 25, pos := "law.go:104", after := #[{ on := 6, ground := Ground.data }], guard := none } : Oper)) (v := ?_) rfl (by kernel_rfl) (by kernel_rfl) (by kernel_rfl) (fun _ _ _ h => h) (Or.inl ⟨by rfl, ?_⟩) (by assumption) ?_
              rotate_left
              · (intro wz hSw; (try dsimp only at hSw); go_simp; try with_reducible rfl)
              simp only [Act.put, List.setIfInBounds_toArray, List.set_cons_zero, List.set_cons_succ]
              refine wpAnyH_take (i := 8) (oi := ({ dst := some 35, op := Op.extract (Operand.tmp 27) 1, type := 4, pos := "law.go:104", after := #[{ on := 6, ground := Ground.data }, { on := 10, ground := Ground.gcOnly Departure.lateStores }], guard := none } : Oper)) (v := ?_) rfl (by kernel_rfl) (by kernel_rfl) (by kernel_rfl) (fun _ _ _ h => h) (Or.inl ⟨by rfl, ?_⟩) (by assumption) ?_
              rotate_left
              · (intro wz hSw; (try dsimp only at hSw); go_simp; try with_reducible rfl)
              simp only [Act.put, List.setIfInBounds_toArray, List.set_cons_zero, List.set_cons_succ]
              refine wpAnyH_ready (rs := [10]) (by kernel_rfl) (by simp) ?_
              refine AllReadyH.cons (o := ({ dst := none, op := Op.store 25 (Operand.tmp 8) (Operand.tmp 34), type := 0, pos := "law.go:104", after := #[{ on := 9, ground := Ground.data }, { on := 7, ground := Ground.data }, { on := 5, ground := Ground.chain }, { on := 0, ground := Ground.phase }, { on := 1, ground := Ground.phase }, { on := 2, ground := Ground.phase }, { on := 3, ground := Ground.phase }, { on := 4, ground := Ground.phase }, { on := 5, ground := Ground.phase }, { on := 6, ground := Ground.phase }, { on := 7, ground := Ground.phase }, { on := 8, ground := Ground.textOnly Departure.lateStores }, { on := 9, ground := Ground.phase }], guard := none } : Oper)) rfl (fun K hK => ?_) AllReadyH.nil
              · have c0 := M4.1.1
                have c1 := M4.1.2
                have c2 := M4.2.1
                have c3 := M4.2.2
                go_simp
                have M5 := M4.wrote (x' := (twoP oo P Q).1.1) (y' := (twoP oo P Q).1.2)
                refine hK.out _ _ (HST.out _ kM _ _ (by omega) hH4) (fun hH5 => ?_)
                clear hK K c0 c1 c2 c3
                obtain ⟨w5, hw5⟩ : ∃ w5, w5 = ((w4.setCell ⟨kM, 0, none⟩ (.int .i64 (twoP oo P Q).1.1)).setCell ⟨kM, 1, none⟩ (.int .i64 (twoP oo P Q).1.2)) := ⟨_, rfl⟩
                rw [← hw5] at hH5 M5 ⊢
                clear hw5
                refine wpAnyH_take (i := 11) (oi := ({ dst := some 9, op := Op.assign (Operand.tmp 35), type := 4, pos := "law.go:104", after := #[{ on := 8, ground := Ground.data }, { on := 10, ground := Ground.chain }, { on := 0, ground := Ground.phase }, { on := 1, ground := Ground.phase }, { on := 2, ground := Ground.phase }, { on := 3, ground := Ground.phase }, { on := 4, ground := Ground.phase }, { on := 5, ground := Ground.phase }, { on := 6, ground := Ground.phase }, { on := 7, ground := Ground.phase }, { on := 8, ground := Ground.phase }, { on := 9, ground := Ground.phase }, { on := 10, ground := Ground.phase }], guard := none } : Oper)) (v := ?_) rfl (by kernel_rfl) (by kernel_rfl) (by kernel_rfl) (fun _ _ _ h => h) (Or.inl ⟨by rfl, ?_⟩) (by assumption) ?_
                rotate_left
                · (intro wz hSw; (try dsimp only at hSw); go_simp; try with_reducible rfl)
                simp only [Act.put, List.setIfInBounds_toArray, List.set_cons_zero, List.set_cons_succ]
                refine wpAnyH_done (by kernel_rfl) ?_ _
                go_wp2
                go_meet
                case rel => exact ⟨_, rfl, rfl, ⟨hH5.1, hH5.2.1⟩, ⟨hH5.2.2.2.1, hH5.2.2.2.2.1⟩, M5.1, hH5.2.2.2.2.2.2.out⟩
        · go_simp
          have hb2 : Below w1.heap.size w1 (w1.alloc (.cells #[.int .i64 0, .int .i64 0] 25)) := (Below.refl _ _).alloc (Nat.le_refl _) _
          have M2 := Bz.new w1 0 0 25
          have neM : N + 1 < w1.heap.size := hH1.2.2.2.2.2.1
          refine hK.out _ _ (HCL.out _ _ hH1 hb2) (fun hH2 => ?_)
          clear hK K
          obtain ⟨w2, hw2⟩ : ∃ w2, w2 = (w1.alloc (.cells #[.int .i64 0, .int .i64 0] 25)) := ⟨_, rfl⟩
          rw [← hw2] at hH2 M2 ⊢
          clear hw2
          generalize w1.heap.size = kM at *
          refine wpAnyH_ready (rs := [4]) (by kernel_rfl) (by simp) ?_
          refine AllReadyH.cons (o := ({ dst := some 32, op := Op.call { callee := Callee.value (Operand.func 10), args := #[Operand.tmp 31], argTypes := #[23] }, type := 25, pos := "law.go:104", after := #[{ on := 3, ground := Ground.data }, { on := 2, ground := Ground.chain }], guard := none } : Oper)) rfl (fun K hK => ?_) AllReadyH.nil
          · go_simp
            go_at_call 10
            refine (bel2 (to_any _ _ _)).mono ?_
            rintro e w3 ⟨rfl, hb3⟩
            have M3 := M2.keep hb3
            refine hK.out _ _ (HCL.out _ _ hH2 hb3) (fun hH3 => ?_)
            clear hK K
            refine wpAnyH_ready (rs := [5]) (by kernel_rfl) (by simp) ?_
            refine AllReadyH.cons (o := ({ dst := some 33, op := Op.call { callee := Callee.value (Operand.func 29), args := #[Operand.tmp 28, Operand.tmp 30, Operand.tmp 32], argTypes := #[3, 25, 25] }, type := 28, pos := "law.go:104", after := #[{ on := 0, ground := Ground.data }, { on := 2, ground := Ground.data }, { on := 4, ground := Ground.data }, { on := 4, ground := Ground.chain }], guard := none } : Oper)) rfl (fun K hK => ?_) AllReadyH.nil
            · go_simp
              go_at_call 29
              refine (two_any oo P Q _ sP sQ).mono ?_
              rintro e w4 ⟨rfl, hb4⟩
              have M4 := M3.keep hb4
              refine hK.out _ _ (HCL.out _ _ hH3 hb4) (fun hH4 => ?_)
              clear hK K
              refine wpAnyH_take (i := 6) (oi := ({ dst := some 27, op := Op.move (Operand.tmp 33), type := 28, pos := "law.go:104", after := #[{ on := 5, ground := Ground.data }], guard := none } : Oper)) (v := ?_) rfl (by kernel_rfl) (by kernel_rfl) (by kernel_rfl) (fun _ _ _ h => h) (Or.inl ⟨by rfl, ?_⟩) (by assumption) ?_
              rotate_left
              · (intro wz hSw; (try dsimp only at hSw); go_simp; try with_reducible rfl)
              simp only [Act.put, List.setIfInBounds_toArray, List.set_cons_zero, List.set_cons_succ]
              refine wpAnyH_take (i := 7) (oi := ({ dst := some 34, op := Op.extract (Operand.tmp 27) 0, type := 25, pos := "law.go:104", after := #[{ on := 6, ground := Ground.data }], guard := none } : Oper)) (v := ?_) rfl (by kernel_rfl) (by kernel_rfl) (by kernel_rfl) (fun _ _ _ h => h) (Or.inl ⟨by rfl, ?_⟩) (by assumption) ?_
              rotate_left
              · (intro wz hSw; (try dsimp only at hSw); go_simp; try with_reducible rfl)
              simp only [Act.put, List.setIfInBounds_toArray, List.set_cons_zero, List.set_cons_succ]
              refine wpAnyH_take (i := 8) (oi := ({ dst := some 35, op := Op.extract (Operand.tmp 27) 1, type := 4, pos := "law.go:104", after := #[{ on := 6, ground := Ground.data }, { on := 10, ground := Ground.gcOnly Departure.lateStores }], guard := none } : Oper)) (v := ?_) rfl (by kernel_rfl) (by kernel_rfl) (by kernel_rfl) (fun _ _ _ h => h) (Or.inl ⟨by rfl, ?_⟩) (by assumption) ?_
              rotate_left
              · (intro wz hSw; (try dsimp only at hSw); go_simp; try with_reducible rfl)
              simp only [Act.put, List.setIfInBounds_toArray, List.set_cons_zero, List.set_cons_succ]
              refine wpAnyH_ready (rs := [10]) (by kernel_rfl) (by simp) ?_
              refine AllReadyH.cons (o := ({ dst := none, op := Op.store 25 (Operand.tmp 8) (Operand.tmp 34), type := 0, pos := "law.go:104", after := #[{ on := 9, ground := Ground.data }, { on := 7, ground := Ground.data }, { on := 5, ground := Ground.chain }, { on := 0, ground := Ground.phase }, { on := 1, ground := Ground.phase }, { on := 2, ground := Ground.phase }, { on := 3, ground := Ground.phase }, { on := 4, ground := Ground.phase }, { on := 5, ground := Ground.phase }, { on := 6, ground := Ground.phase }, { on := 7, ground := Ground.phase }, { on := 8, ground := Ground.textOnly Departure.lateStores }, { on := 9, ground := Ground.phase }], guard := none } : Oper)) rfl (fun K hK => ?_) AllReadyH.nil
              · have c0 := M4.1.1
                have c1 := M4.1.2
                have c2 := M4.2.1
                have c3 := M4.2.2
                go_simp
                have M5 := M4.wrote (x' := (twoP oo P Q).1.1) (y' := (twoP oo P Q).1.2)
                refine hK.out _ _ (HST.out _ kM _ _ (by omega) hH4) (fun hH5 => ?_)
                clear hK K c0 c1 c2 c3
                obtain ⟨w5, hw5⟩ : ∃ w5, w5 = ((w4.setCell ⟨kM, 0, none⟩ (.int .i64 (twoP oo P Q).1.1)).setCell ⟨kM, 1, none⟩ (.int .i64 (twoP oo P Q).1.2)) := ⟨_, rfl⟩
                rw [← hw5] at hH5 M5 ⊢
                clear hw5
                refine wpAnyH_take (i := 11) (oi := ({ dst := some 9, op := Op.assign (Operand.tmp 35), type := 4, pos := "law.go:104", after := #[{ on := 8, ground := Ground.data }, { on := 10, ground := Ground.chain }, { on := 0, ground := Ground.phase }, { on := 1, ground := Ground.phase }, { on := 2, ground := Ground.phase }, { on := 3, ground := Ground.phase }, { on := 4, ground := Ground.phase }, { on := 5, ground := Ground.phase }, { on := 6, ground := Ground.phase }, { on := 7, ground := Ground.phase }, { on := 8, ground := Ground.phase }, { on := 9, ground := Ground.phase }, { on := 10, ground := Ground.phase }], guard := none } : Oper)) (v := ?_) rfl (by kernel_rfl) (by kernel_rfl) (by kernel_rfl) (fun _ _ _ h => h) (Or.inl ⟨by rfl, ?_⟩) (by assumption) ?_
                rotate_left
                · (intro wz hSw; (try dsimp only at hSw); go_simp; try with_reducible rfl)
                simp only [Act.put, List.setIfInBounds_toArray, List.set_cons_zero, List.set_cons_succ]
                refine wpAnyH_done (by kernel_rfl) ?_ _
                go_wp2
                go_meet
                case rel => exact ⟨_, rfl, rfl, ⟨hH5.1, hH5.2.1⟩, ⟨hH5.2.2.2.1, hH5.2.2.2.2.1⟩, M5.1, hH5.2.2.2.2.2.2.out⟩
      · go_simp
        have hb1 : Below w0.heap.size w0 (w0.alloc (.cells #[.int .i64 0, .int .i64 0] 25)) := (Below.refl _ _).alloc (Nat.le_refl _) _
        have M1 := Bz.new w0 0 0 25
        have neM : N + 1 < w0.heap.size := hH0.2.2.2.2.2.1
        refine hK.out _ _ (HCL.out _ _ hH0 hb1) (fun hH1 => ?_)
        clear hK K
        obtain ⟨w1, hw1⟩ : ∃ w1, w1 = (w0.alloc (.cells #[.int .i64 0, .int .i64 0] 25)) := ⟨_, rfl⟩
        rw [← hw1] at hH1 M1 ⊢
        clear hw1
        generalize w0.heap.size = kM at *
        refine wpAnyH_ready (rs := [2]) (by kernel_rfl) (by simp) ?_
        refine AllReadyH.cons (o := ({ dst := some 30, op := Op.call { callee := Callee.value (Operand.func 10), args := #[Operand.tmp 29], argTypes := #[23] }, type := 25, pos := "law.go:104", after := #[{ on := 1, ground := Ground.data }], guard := none } : Oper)) rfl (fun K hK => ?_) AllReadyH.nil
        · go_simp
          go_at_call 10
          refine (bel2 (to_any _ _ _)).mono ?_
          rintro e w2 ⟨rfl, hb2⟩
          have M2 := M1.keep hb2
          refine hK.out _ _ (HCL.out _ _ hH1 hb2) (fun hH2 => ?_)
          clear hK K
          refine wpAnyH_ready (rs := [4]) (by kernel_rfl) (by simp) ?_
          refine AllReadyH.cons (o := ({ dst := some 32, op := Op.call { callee := Callee.value (Operand.func 10), args := #[Operand.tmp 31], argTypes := #[23] }, type := 25, pos := "law.go:104", after := #[{ on := 3, ground := Ground.data }, { on := 2, ground := Ground.chain }], guard := none } : Oper)) rfl (fun K hK => ?_) AllReadyH.nil
          · go_simp
            go_at_call 10
            refine (bel2 (to_any _ _ _)).mono ?_
            rintro e w3 ⟨rfl, hb3⟩
            have M3 := M2.keep hb3
            refine hK.out _ _ (HCL.out _ _ hH2 hb3) (fun hH3 => ?_)
            clear hK K
            refine wpAnyH_ready (rs := [5]) (by kernel_rfl) (by simp) ?_
            refine AllReadyH.cons (o := ({ dst := some 33, op := Op.call { callee := Callee.value (Operand.func 29), args := #[Operand.tmp 28, Operand.tmp 30, Operand.tmp 32], argTypes := #[3, 25, 25] }, type := 28, pos := "law.go:104", after := #[{ on := 0, ground := Ground.data }, { on := 2, ground := Ground.data }, { on := 4, ground := Ground.data }, { on := 4, ground := Ground.chain }], guard := none } : Oper)) rfl (fun K hK => ?_) AllReadyH.nil
            · go_simp
              go_at_call 29
              refine (two_any oo P Q _ sP sQ).mono ?_
              rintro e w4 ⟨rfl, hb4⟩
              have M4 := M3.keep hb4
              refine hK.out _ _ (HCL.out _ _ hH3 hb4) (fun hH4 => ?_)
              clear hK K
              refine wpAnyH_take (i := 6) (oi := ({ dst := some 27, op := Op.move (Operand.tmp 33), type := 28, pos := "law.go:104", after := #[{ on := 5, ground := Ground.data }], guard := none } : Oper)) (v := ?_) rfl (by kernel_rfl) (by kernel_rfl) (by kernel_rfl) (fun _ _ _ h => h) (Or.inl ⟨by rfl, ?_⟩) (by assumption) ?_
              rotate_left
              · (intro wz hSw; (try dsimp only at hSw); go_simp; try with_reducible rfl)
              simp only [Act.put, List.setIfInBounds_toArray, List.set_cons_zero, List.set_cons_succ]
              refine wpAnyH_take (i := 7) (oi := ({ dst := some 34, op := Op.extract (Operand.tmp 27) 0, type := 25, pos := "law.go:104", after := #[{ on := 6, ground := Ground.data }], guard := none } : Oper)) (v := ?_) rfl (by kernel_rfl) (by kernel_rfl) (by kernel_rfl) (fun _ _ _ h => h) (Or.inl ⟨by rfl, ?_⟩) (by assumption) ?_
              rotate_left
              · (intro wz hSw; (try dsimp only at hSw); go_simp; try with_reducible rfl)
              simp only [Act.put, List.setIfInBounds_toArray, List.set_cons_zero, List.set_cons_succ]
              refine wpAnyH_take (i := 8) (oi := ({ dst := some 35, op := Op.extract (Operand.tmp 27) 1, type := 4, pos := "law.go:104", after := #[{ on := 6, ground := Ground.data }, { on := 10, ground := Ground.gcOnly Departure.lateStores }], guard := none } : Oper)) (v := ?_) rfl (by kernel_rfl) (by kernel_rfl) (by kernel_rfl) (fun _ _ _ h => h) (Or.inl ⟨by rfl, ?_⟩) (by assumption) ?_
              rotate_left
              · (intro wz hSw; (try dsimp only at hSw); go_simp; try with_reducible rfl)
              simp only [Act.put, List.setIfInBounds_toArray, List.set_cons_zero, List.set_cons_succ]
              refine wpAnyH_ready (rs := [10]) (by kernel_rfl) (by simp) ?_
              refine AllReadyH.cons (o := ({ dst := none, op := Op.store 25 (Operand.tmp 8) (Operand.tmp 34), type := 0, pos := "law.go:104", after := #[{ on := 9, ground := Ground.data }, { on := 7, ground := Ground.data }, { on := 5, ground := Ground.chain }, { on := 0, ground := Ground.phase }, { on := 1, ground := Ground.phase }, { on := 2, ground := Ground.phase }, { on := 3, ground := Ground.phase }, { on := 4, ground := Ground.phase }, { on := 5, ground := Ground.phase }, { on := 6, ground := Ground.phase }, { on := 7, ground := Ground.phase }, { on := 8, ground := Ground.textOnly Departure.lateStores }, { on := 9, ground := Ground.phase }], guard := none } : Oper)) rfl (fun K hK => ?_) AllReadyH.nil
              · have c0 := M4.1.1
                have c1 := M4.1.2
                have c2 := M4.2.1
                have c3 := M4.2.2
                go_simp
                have M5 := M4.wrote (x' := (twoP oo P Q).1.1) (y' := (twoP oo P Q).1.2)
                refine hK.out _ _ (HST.out _ kM _ _ (by omega) hH4) (fun hH5 => ?_)
                clear hK K c0 c1 c2 c3
                obtain ⟨w5, hw5⟩ : ∃ w5, w5 = ((w4.setCell ⟨kM, 0, none⟩ (.int .i64 (twoP oo P Q).1.1)).setCell ⟨kM, 1, none⟩ (.int .i64 (twoP oo P Q).1.2)) := ⟨_, rfl⟩
                rw [← hw5] at hH5 M5 ⊢
                clear hw5
                refine wpAnyH_take (i := 11) (oi := ({ dst := some 9, op := Op.assign (Operand.tmp 35), type := 4, pos := "law.go:104", after := #[{ on := 8, ground := Ground.data }, { on := 10, ground := Ground.chain }, { on := 0, ground := Ground.phase }, { on := 1, ground := Ground.phase }, { on := 2, ground := Ground.phase }, { on := 3, ground := Ground.phase }, { on := 4, ground := Ground.phase }, { on := 5, ground := Ground.phase }, { on := 6, ground := Ground.phase }, { on := 7, ground := Ground.phase }, { on := 8, ground := Ground.phase }, { on := 9, ground := Ground.phase }, { on := 10, ground := Ground.phase }], guard := none } : Oper)) (v := ?_) rfl (by kernel_rfl) (by kernel_rfl) (by kernel_rfl) (fun _ _ _ h => h) (Or.inl ⟨by rfl, ?_⟩) (by assumption) ?_
                rotate_left
                · (intro wz hSw; (try dsimp only at hSw); go_simp; try with_reducible rfl)
                simp only [Act.put, List.setIfInBounds_toArray, List.set_cons_zero, List.set_cons_succ]
                refine wpAnyH_done (by kernel_rfl) ?_ _
                go_wp2
                go_meet
                case rel => exact ⟨_, rfl, rfl, ⟨hH5.1, hH5.2.1⟩, ⟨hH5.2.2.2.1, hH5.2.2.2.2.1⟩, M5.1, hH5.2.2.2.2.2.2.out⟩
    case rest =>
      obtain ⟨p, rfl, rfl, HH⟩ := hcut
      clear hS0 HCL HST
      have hm := two_ends oo P Q sP sQ ho
      generalize hM : (twoP oo P Q).1 = M at *
      generalize hK : (twoP oo P Q).2 = okk at *
      clear hM hK
      cases okk
      · clear hm
        go_upto_region 5 with (go_at_call 14; refine (told_any _).mono ?_; rintro e wT ⟨rfl, hT⟩)
        go_wp2_with (go_at_call 14; refine (told_any _).mono ?_; rintro e wU ⟨rfl, hU⟩)
        go_ret
        exact ⟨rfl, (by have u := HH.out.2.2.2.trans (hT.mono (Nat.le_of_lt HH.out.1.lt)); rw [← HN.out]; exact u.trans (hU.mono (Nat.le_of_lt (HH.out.1.keep hT).lt)))⟩
      by_cases hall : M = allP
      · subst hall
        clear hm
        unfold allP at HH
        go_upto_region 5 with (first | (go_at_call 14; refine (told_any _).mono ?_; rintro e wT ⟨rfl, hT⟩; have KT := HH.out.2.2.1.keep hT; have c0 := KT.1; have c1 := KT.2; clear KT) | (go_at_call 15; refine (from_any _ _ _).mono ?_; rintro e w1 ⟨rfl, o1, o2, rfl⟩) | (go_at_call 18; refine (anyr_any _).mono ?_; rintro e w1 ⟨rfl, o3, rfl⟩))
        go_name_world W5 hW5
        have hV : Below wT.heap.size wT W5 := by rw [← hW5]; exact (by repeat (first | exact Below.refl _ _ | (refine Below.drew ?_) | (refine below_drewN ?_ _) | (refine Below.setCell ?_ (by first | omega | (simp; done) | (simp; omega)) _) | (refine Below.alloc ?_ (by first | omega | (simp; done) | (simp; omega)) _) | (refine Below.trans ?_ (Below.mono (by assumption) (by first | omega | (simp; done) | (simp; omega))))))
        clear hW5
        go_wp2_with (go_at_call 14; refine (told_any _).mono ?_; rintro e wU ⟨rfl, hU⟩)
        go_ret
        exact ⟨rfl, by have u := HH.out.2.2.2.trans (hT.mono (Nat.le_of_lt HH.out.1.lt)); have u2 := u.trans (hV.mono (Nat.le_of_lt (HH.out.1.keep hT).lt)); rw [← HN.out]; exact u2.trans (hU.mono (Nat.le_of_lt ((HH.out.1.keep hT).keep hV).lt))⟩
      have hm := hm rfl hall
      have HM : Hid (eAll oo P Q M.1 2 = true ∧ eAll oo P Q M.2 2 = true) := hm
      clear hm
      go_upto_region 4 with fail
      go_cut [47] (fun v47 wz => v47 = .bool false ∧ Hid (Bx wz N P.1 P.2 ∧ Bx wz (N + 1) Q.1 Q.2 ∧ Bx wz p M.1 M.2 ∧ Below N w wz))
      case first =>
        by_cases k : M.1 = -9223372036854775808
        · have hM2 : (M.2 == 9223372036854775807) = false := by rw [beq_eq_false_iff_ne]; exact fun k2 => hall (Prod.ext k k2)
          have hM1 : (M.1 == -9223372036854775808) = true := by rw [beq_iff_eq]; exact k
          clear k hall
          go_wp2_with (first | (go_at_call 14; refine (told_any _).mono ?_; rintro e wT ⟨rfl, hT⟩; have KT := HH.out.2.2.1.keep hT; have c0 := KT.1; have c1 := KT.2; clear KT) | (go_at_call 15; refine (from_any _ _ _).mono ?_; rintro e w1 ⟨rfl, o1, o2, rfl⟩) | (go_at_call 18; refine (anyr_any _).mono ?_; rintro e w1 ⟨rfl, o3, rfl⟩))
          go_meet
          case rel =>
            have hV : Below wT.heap.size wT (((wT.alloc o1).alloc o2).alloc o3) := (by repeat (first | exact Below.refl _ _ | (refine Below.drew ?_) | (refine below_drewN ?_ _) | (refine Below.setCell ?_ (by first | omega | (simp; done) | (simp; omega)) _) | (refine Below.alloc ?_ (by first | omega | (simp; done) | (simp; omega)) _) | (refine Below.trans ?_ (Below.mono (by assumption) (by first | omega | (simp; done) | (simp; omega))))))
            have u := HH.out.2.2.2.trans (hT.mono (Nat.le_of_lt HH.out.1.lt))
            exact ⟨rfl, (HH.out.1.keep hT).keep hV, (HH.out.2.1.keep hT).keep hV, (HH.out.2.2.1.keep hT).keep hV, u.trans (hV.mono (Nat.le_of_lt (HH.out.1.keep hT).lt))⟩
        · have hM1 : (M.1 == -9223372036854775808) = false := by rw [beq_eq_false_iff_ne]; exact k
          clear k hall
          go_wp2_with (first | (go_at_call 14; refine (told_any _).mono ?_; rintro e wT ⟨rfl, hT⟩; have KT := HH.out.2.2.1.keep hT; have c0 := KT.1; have c1 := KT.2; clear KT) | (go_at_call 15; refine (from_any _ _ _).mono ?_; rintro e w1 ⟨rfl, o1, o2, rfl⟩) | (go_at_call 18; refine (anyr_any _).mono ?_; rintro e w1 ⟨rfl, o3, rfl⟩))
          go_meet
          case rel =>
            have hV : Below wT.heap.size wT (((wT.alloc o1).alloc o2).alloc o3) := (by repeat (first | exact Below.refl _ _ | (refine Below.drew ?_) | (refine below_drewN ?_ _) | (refine Below.setCell ?_ (by first | omega | (simp; done) | (simp; omega)) _) | (refine Below.alloc ?_ (by first | omega | (simp; done) | (simp; omega)) _) | (refine Below.trans ?_ (Below.mono (by assumption) (by first | omega | (simp; done) | (simp; omega))))))
            have u := HH.out.2.2.2.trans (hT.mono (Nat.le_of_lt HH.out.1.lt))
            exact ⟨rfl, (HH.out.1.keep hT).keep hV, (HH.out.2.1.keep hT).keep hV, (HH.out.2.2.1.keep hT).keep hV, u.trans (hV.mono (Nat.le_of_lt (HH.out.1.keep hT).lt))⟩
      case rest =>
        obtain ⟨rfl, HH2⟩ := hcut
        clear HH hall
        have f0 := HH2.out.1.1
        have f1 := HH2.out.1.2
        have f2 := HH2.out.2.1.1
        have f3 := HH2.out.2.1.2
        have z0 := HH2.out.1.lt
        have z1 := HH2.out.2.1.lt
        go_wp2_with fail
        go_name_world W7 hW7
        have H7 : Hid (En w W7 N p wc.heap.size (wc.heap.size + 1) P Q M) := by
          rw [← hW7]
          have k1 : Below wc.heap.size wc (wc.alloc (.cells #[.int .i64 P.1, .int .i64 P.2] 2)) := (Below.refl _ _).alloc (Nat.le_refl _) _
          have k2 : ∀ x : World, ∀ o : Obj, Below x.heap.size x (x.alloc o) := fun x o => (Below.refl _ _).alloc (Nat.le_refl _) o
          refine ⟨(HH2.out.1.keep (k2 _ _)).keep (k2 _ _), (HH2.out.2.1.keep (k2 _ _)).keep (k2 _ _), (HH2.out.2.2.1.keep (k2 _ _)).keep (k2 _ _), ?_, ?_, ?_⟩
          · intro i hi
            match i, hi with
            | 0, _ => simp [eX]
            | 1, _ => simp [eX]
          · intro k hk
            match k, hk with
            | 0, _ => simp [eY, go_sem]
            | 1, _ => simp [eY, go_sem]
            | 2, _ => simp [eY, go_sem]
            | 3, _ => simp [eY, go_sem]
          · have u := HH2.out.2.2.2.trans ((k2 wc (.cells #[.int .i64 P.1, .int .i64 P.2] 2)).mono (Nat.le_of_lt z0))
            exact u.trans ((k2 _ _).mono (by simp; omega))
        clear hW7 HH2 f0 f1 f2 f3 z0 z1
        generalize wc.heap.size + 1 = gy at *
        generalize wc.heap.size = gx at *
        go_loopw [12, 13, 14] (fun lo hi ix wr => ∃ i : Nat, i ≤ 2 ∧ ix = .int .i64 i ∧ lo = .bool (eAll oo P Q M.1 i) ∧ hi = .bool (eAll oo P Q M.2 i) ∧ Hid (En w wr N p gx gy P Q M)) (fun _ _ i _ => 2 - (intOf i).toNat)
        case atStart => exact ⟨0, by omega, rfl, rfl, rfl, H7⟩
        case round =>
          obtain ⟨i, hi2, rfl, rfl, rfl, hE⟩ := hrel
          clear H7
          have i0 : (0 : Int) ≤ i := by omega
          by_cases hi : i < 2
          · have i1 : (i : Int) < 2 := by omega
            have HA1 : Hid (eAll oo P Q M.1 (i + 1) = (eAll oo P Q M.1 i || eRow oo P Q M.1 i 4)) := rfl
            have HA2 : Hid (eAll oo P Q M.2 (i + 1) = (eAll oo P Q M.2 i || eRow oo P Q M.2 i 4)) := rfl
            have B1 : eAll oo P Q M.1 i = (eAll oo P Q M.1 i || eRow oo P Q M.1 i 0) := by simp [eRow]
            have B2 : eAll oo P Q M.2 i = (eAll oo P Q M.2 i || eRow oo P Q M.2 i 0) := by simp [eRow]
            have HB : Hid (_ ∧ _) := ⟨B1, B2⟩
            clear B1 B2
            generalize eAll oo P Q M.1 i = a1 at *
            generalize eAll oo P Q M.2 i = a2 at *
            go_wp2_with fail
            go_loopw [12, 13, 15] (fun lo hi kx wr => ∃ k : Nat, k ≤ 4 ∧ kx = .int .i64 k ∧ lo = .bool (a1 || eRow oo P Q M.1 i k) ∧ hi = .bool (a2 || eRow oo P Q M.2 i k) ∧ Hid (En w wr N p gx gy P Q M)) (fun _ _ i _ => 4 - (intOf i).toNat)
            case atStart => exact ⟨0, by omega, rfl, congrArg Value.bool HB.out.1, congrArg Value.bool HB.out.2, hE⟩
            case round =>
              obtain ⟨k, hk4, rfl, rfl, rfl, hE2⟩ := hrel
              clear hE HB
              have k0 : (0 : Int) ≤ k := by omega
              by_cases hk : k < 4
              · have k1 : (k : Int) < 4 := by omega
                have cX := hE2.out.x i hi
                have cY := hE2.out.y k hk
                have iX := eX_i64 P i sP
                have iY := eY_i64 Q k sQ
                have HR1 : Hid (eRow oo P Q M.1 i (k + 1) = (eRow oo P Q M.1 i k || eHit oo P Q M.1 i k)) := rfl
                have HR2 : Hid (eRow oo P Q M.2 i (k + 1) = (eRow oo P Q M.2 i k || eHit oo P Q M.2 i k)) := rfl
                have HH1 : Hid (∀ n, eHit oo P Q n i k = ((arith oo (eX P i) (eY Q k)).2 && hasR Q.1 Q.2 (eY Q k) && ((arith oo (eX P i) (eY Q k)).1 == n))) := fun n => rfl
                generalize eRow oo P Q M.1 i k = r1 at *
                generalize eRow oo P Q M.2 i k = r2 at *
                generalize eX P i = x at *
                generalize eY Q k = y at *
                go_wp2_with fail
                go_quiet ((go_at_call 34; exact Calls.quiet_of_same (arith_ref _ _ _ _ iX iY)))
                go_upto_region 16 with fail
                go_name_world V hV
                have hE3 : Hid (En w V N p gx gy P Q M) := by rw [← hV]; exact hE2.out.keep (below_drewN (Below.refl _ _) _)
                have cY2 : V.cell? ⟨gy, k, none⟩ = some (.int .i64 y) := by rw [← hV]; simpa using cY
                clear hV hE2 cX cY iX iY
                generalize (arith oo x y).1 = nn at *
                generalize (arith oo x y).2 = may at *
                cases may
                · go_quiet (fail)
                  go_wp2_with fail
                  go_round
                  case rel => exact ⟨k + 1, by omega, by push_cast; rfl, congrArg Value.bool (by rw [HR1.out, HH1.out]; simp), congrArg Value.bool (by rw [HR2.out, HH1.out]; simp), hE3.out.keep (below_drewN (Below.refl _ _) _)⟩
                  case measure => simp [intOf]; omega
                · have HCL : Hid (∀ a b : World, (a.cell? ⟨(N + 1), 0, none⟩ = some (.int .i64 Q.1) ∧ a.cell? ⟨(N + 1), 1, none⟩ = some (.int .i64 Q.2) ∧ (N + 1) < a.heap.size ∧ a.cell? ⟨gy, k, none⟩ = some (.int .i64 y) ∧ Hid (En w a N p gx gy P Q M)) → Below a.heap.size a b → (b.cell? ⟨(N + 1), 0, none⟩ = some (.int .i64 Q.1) ∧ b.cell? ⟨(N + 1), 1, none⟩ = some (.int .i64 Q.2) ∧ (N + 1) < b.heap.size ∧ b.cell? ⟨gy, k, none⟩ = some (.int .i64 y) ∧ Hid (En w b N p gx gy P Q M))) := fun a b h hb => by
                    have t := h.2.2.2.2.out.keep hb
                    exact ⟨t.b.1, t.b.2, t.b.lt, (hb.cell (p := ⟨gy, k, none⟩) (World.block_lt_of_cell? a _ h.2.2.2.1)).trans h.2.2.2.1, t⟩
                  have hS0 : V.cell? ⟨(N + 1), 0, none⟩ = some (.int .i64 Q.1) ∧ V.cell? ⟨(N + 1), 1, none⟩ = some (.int .i64 Q.2) ∧ (N + 1) < V.heap.size ∧ V.cell? ⟨gy, k, none⟩ = some (.int .i64 y) ∧ Hid (En w V N p gx gy P Q M) := ⟨hE3.out.b.1, hE3.out.b.2, hE3.out.b.lt, cY2, hE3⟩
                  refine wp_region_held_drew (S := fun w' => w'.cell? ⟨(N + 1), 0, none⟩ = some (.int .i64 Q.1) ∧ w'.cell? ⟨(N + 1), 1, none⟩ = some (.int .i64 Q.2) ∧ (N + 1) < w'.heap.size ∧ w'.cell? ⟨gy, k, none⟩ = some (.int .i64 y) ∧ Hid (En w w' N p gx gy P Q M)) (by kernel_rfl) (HCL.out _ _ hS0 ((Below.refl _ _).drew)) (fun hHeld => ?_)
                  refine wpAnyH_take (i := 0) (oi := ({ dst := some 84, op := Op.move (Operand.tmp 17), type := 4, pos := "law.go:114", after := #[], guard := none } : Oper)) (v := ?_) rfl (by kernel_rfl) (by kernel_rfl) (by kernel_rfl) (fun _ _ _ h => h) (Or.inl ⟨by rfl, ?_⟩) (by assumption) ?_
                  rotate_left
                  · (intro wz hSw; (try dsimp only at hSw); go_simp; try with_reducible rfl)
                  simp only [Act.put, List.setIfInBounds_toArray, List.set_cons_zero, List.set_cons_succ]
                  refine wpAnyH_take (i := 1) (oi := ({ dst := some 85, op := Op.move (Operand.tmp 84), type := 4, pos := "law.go:114", after := #[{ on := 0, ground := Ground.data }], guard := none } : Oper)) (v := ?_) rfl (by kernel_rfl) (by kernel_rfl) (by kernel_rfl) (fun _ _ _ h => h) (Or.inl ⟨by rfl, ?_⟩) (by assumption) ?_
                  rotate_left
                  · (intro wz hSw; (try dsimp only at hSw); go_simp; try with_reducible rfl)
                  simp only [Act.put, List.setIfInBounds_toArray, List.set_cons_zero, List.set_cons_succ]
                  refine wpAnyH_take (i := 2) (oi := ({ dst := some 86, op := Op.load 23 (Operand.tmp 5), type := 23, pos := "law.go:114", after := #[{ on := 1, ground := Ground.guard }], guard := some (1, true) } : Oper)) (v := ?_) rfl (by kernel_rfl) (by kernel_rfl) (by kernel_rfl) (fun _ _ _ h => h) (Or.inl ⟨by rfl, ?_⟩) (by assumption) ?_
                  rotate_left
                  · (intro wz hSw; (try dsimp only at hSw); go_simp; try with_reducible rfl)
                  simp only [Act.put, List.setIfInBounds_toArray, List.set_cons_zero, List.set_cons_succ]
                  refine wpAnyH_take (i := 3) (oi := ({ dst := some 87, op := Op.move (Operand.tmp 11), type := 59, pos := "law.go:114", after := #[{ on := 1, ground := Ground.guard }], guard := some (1, true) } : Oper)) (v := ?_) rfl (by kernel_rfl) (by kernel_rfl) (by kernel_rfl) (fun _ _ _ h => h) (Or.inl ⟨by rfl, ?_⟩) (by assumption) ?_
                  rotate_left
                  · (intro wz hSw; (try dsimp only at hSw); go_simp; try with_reducible rfl)
                  simp only [Act.put, List.setIfInBounds_toArray, List.set_cons_zero, List.set_cons_succ]
                  refine wpAnyH_take (i := 4) (oi := ({ dst := some 88, op := Op.move (Operand.tmp 15), type := 3, pos := "law.go:114", after := #[{ on := 1, ground := Ground.guard }], guard := some (1, true) } : Oper)) (v := ?_) rfl (by kernel_rfl) (by kernel_rfl) (by kernel_rfl) (fun _ _ _ h => h) (Or.inl ⟨by rfl, ?_⟩) (by assumption) ?_
                  rotate_left
                  · (intro wz hSw; (try dsimp only at hSw); go_simp; try with_reducible rfl)
                  simp only [Act.put, List.setIfInBounds_toArray, List.set_cons_zero, List.set_cons_succ]
                  refine wpAnyH_take (i := 5) (oi := ({ dst := some 89, op := Op.indexAddr 59 (Operand.tmp 87) (Operand.tmp 88), type := 0, pos := "law.go:114", after := #[{ on := 3, ground := Ground.data }, { on := 4, ground := Ground.data }, { on := 1, ground := Ground.guard }], guard := some (1, true) } : Oper)) (v := ?_) rfl (by kernel_rfl) (by kernel_rfl) (by kernel_rfl) (fun _ _ _ h => h) (Or.inl ⟨by rfl, ?_⟩) (by assumption) ?_
                  rotate_left
                  · (intro wz hSw; (try dsimp only at hSw); go_simp; try with_reducible rfl)
                  simp only [Act.put, List.setIfInBounds_toArray, List.set_cons_zero, List.set_cons_succ]
                  refine wpAnyH_take (i := 6) (oi := ({ dst := some 90, op := Op.load 2 (Operand.tmp 89), type := 2, pos := "law.go:114", after := #[{ on := 5, ground := Ground.data }, { on := 1, ground := Ground.guard }], guard := some (1, true) } : Oper)) (v := ?_) rfl (by kernel_rfl) (by kernel_rfl) (by kernel_rfl) (fun _ _ _ h => h) (Or.inl ⟨by rfl, ?_⟩) (by assumption) ?_
                  rotate_left
                  · (intro wz hSw; (try dsimp only at hSw); go_simp; try with_reducible rfl)
                  simp only [Act.put, List.setIfInBounds_toArray, List.set_cons_zero, List.set_cons_succ]
                  refine wpAnyH_ready (rs := [7]) (by kernel_rfl) (by simp) ?_
                  refine AllReadyH.cons (o := ({ dst := some 91, op := Op.call { callee := Callee.value (Operand.func 20), args := #[Operand.tmp 86, Operand.tmp 90], argTypes := #[23, 2] }, type := 4, pos := "law.go:114", after := #[{ on := 2, ground := Ground.data }, { on := 6, ground := Ground.data }, { on := 1, ground := Ground.chain }, { on := 1, ground := Ground.guard }], guard := some (1, true) } : Oper)) rfl (fun K hK => ?_) AllReadyH.nil
                  go_simp
                  go_at_call 20
                  refine (lift (bel1 (hasr_any _ _ _ _)) (by assumption) HCL.out).mono ?_
                  rintro e v1 ⟨rfl, g1⟩
                  refine hK.out _ _ g1 (fun hHeld => ?_)
                  clear hK K
                  refine wpAnyH_take (i := 8) (oi := ({ dst := some 92, op := Op.pick (Operand.tmp 85) (Operand.tmp 91) (Operand.const (Value.bool false)), type := 4, pos := "law.go:114", after := #[{ on := 1, ground := Ground.data }, { on := 7, ground := Ground.data }], guard := none } : Oper)) (v := ?_) rfl (by kernel_rfl) (by kernel_rfl) (by kernel_rfl) (fun _ _ _ h => h) (Or.inl ⟨by rfl, ?_⟩) (by assumption) ?_
                  rotate_left
                  · (intro wz hSw; (try dsimp only at hSw); go_simp; try with_reducible rfl)
                  simp only [Act.put, List.setIfInBounds_toArray, List.set_cons_zero, List.set_cons_succ]
                  refine wpAnyH_done (by kernel_rfl) ?_ _
                  have hE4 := g1.2.2.2.2
                  clear hS0 HCL hHeld g1 cY2 hE3
                  generalize hasR Q.1 Q.2 y = hh at *
                  cases hh
                  · go_wp2_with fail
                    go_round
                    case rel => exact ⟨k + 1, by omega, by push_cast; rfl, congrArg Value.bool (by rw [HR1.out, HH1.out]; simp), congrArg Value.bool (by rw [HR2.out, HH1.out]; simp), hE4⟩
                    case measure => simp [intOf]; omega
                  · have c0 := hE4.out.s.1
                    have c1 := hE4.out.s.2
                    obtain ⟨lo, hlo⟩ : ∃ lo, lo = (a1 || r1) := ⟨_, rfl⟩
                    obtain ⟨hi9, hhi⟩ : ∃ hi9, hi9 = (a2 || r2) := ⟨_, rfl⟩
                    have HL : Hid (lo = (a1 || r1) ∧ hi9 = (a2 || r2)) := ⟨hlo, hhi⟩
                    rw [← hlo, ← hhi]
                    clear hlo hhi
                    go_upto_region 17 with fail
                    cases lo <;> cases hi9
                    · go_quiet (fail)
                      go_wp2_with fail
                      go_round
                      case rel => exact ⟨k + 1, by omega, by push_cast; rfl, congrArg Value.bool (by rw [HR1.out, HH1.out, ← Bool.or_assoc, ← HL.out.1]; simp), congrArg Value.bool (by rw [HR2.out, HH1.out, ← Bool.or_assoc, ← HL.out.2]; simp), hE4.out.keep (below_drewN (Below.refl _ _) _)⟩
                      case measure => simp [intOf]; omega
                    · go_quiet (fail)
                      go_wp2_with fail
                      go_round
                      case rel => exact ⟨k + 1, by omega, by push_cast; rfl, congrArg Value.bool (by rw [HR1.out, HH1.out, ← Bool.or_assoc, ← HL.out.1]; simp), congrArg Value.bool (by rw [HR2.out, HH1.out, ← Bool.or_assoc, ← HL.out.2]; simp), hE4.out.keep (below_drewN (Below.refl _ _) _)⟩
                      case measure => simp [intOf]; omega
                    · go_quiet (fail)
                      go_wp2_with fail
                      go_round
                      case rel => exact ⟨k + 1, by omega, by push_cast; rfl, congrArg Value.bool (by rw [HR1.out, HH1.out, ← Bool.or_assoc, ← HL.out.1]; simp), congrArg Value.bool (by rw [HR2.out, HH1.out, ← Bool.or_assoc, ← HL.out.2]; simp), hE4.out.keep (below_drewN (Below.refl _ _) _)⟩
                      case measure => simp [intOf]; omega
                    · go_quiet (fail)
                      go_wp2_with fail
                      go_round
                      case rel => exact ⟨k + 1, by omega, by push_cast; rfl, congrArg Value.bool (by rw [HR1.out, HH1.out, ← Bool.or_assoc, ← HL.out.1]; simp), congrArg Value.bool (by rw [HR2.out, HH1.out, ← Bool.or_assoc, ← HL.out.2]; simp), hE4.out.keep (below_drewN (Below.refl _ _) _)⟩
                      case measure => simp [intOf]; omega
              · obtain rfl : k = 4 := by omega
                go_wp2_with fail
                go_round
                case rel => exact ⟨i + 1, by omega, by push_cast; rfl, congrArg Value.bool HA1.out.symm, congrArg Value.bool HA2.out.symm, hE2⟩
                case measure => simp [intOf]; omega
          · obtain rfl : i = 2 := by omega
            have m1 := HM.out.1
            have m2 := HM.out.2
            go_wp2_with fail
            go_ret
            exact ⟨rfl, by rw [← HN.out]; exact hE.out.bel⟩
end Go.Proofs.Ytpegiljajlljkaa
