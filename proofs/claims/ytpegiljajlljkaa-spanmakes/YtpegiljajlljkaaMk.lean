import Derived.Test.YtpegiljajlljkaaTr
import Derived.Test.YtpegiljajlljkaaTw
import Derived.Test.YtpegiljajlljkaaTo
import Derived.Test.YtpegiljajlljkaaWd
import Derived.Test.YtpegiljajlljkaaSe6
import Derived.Test.YtpegiljajlljkaaSe2
import Derived.Lib.ItoaWalk
import Derived.Deep.CutBlock
import Derived.LoopTactic
namespace Go.Proofs.Ytpegiljajlljkaa
open Go.RowKit
/-- the four boxes of the walk -/
structure Z4 (w W : World) (N kM kR : Nat) (P Q x y : Int × Int) : Prop where
  p : Bx W N P.1 P.2
  q : Bx W (N + 1) Q.1 Q.2
  m : Bz W kM x.1 x.2
  r : Bz W kR y.1 y.2
  bel : Below N w W
theorem Z4.keep {w W W' : World} {N kM kR : Nat} {P Q x y : Int × Int} (h : Z4 w W N kM kR P Q x y) (hb : Below W.heap.size W W') : Z4 w W' N kM kR P Q x y :=
  ⟨h.p.keep hb, h.q.keep hb, h.m.keep hb, h.r.keep hb, h.bel.trans (hb.mono (Nat.le_of_lt h.p.lt))⟩
theorem Z4.setM {w W : World} {N kM kR : Nat} {P Q x y : Int × Int} (h : Z4 w W N kM kR P Q x y) (h1 : N + 1 < kM) (h2 : kM < kR) (x' : Int × Int) : Z4 w ((W.setCell ⟨kM, 0, none⟩ (.int .i64 x'.1)).setCell ⟨kM, 1, none⟩ (.int .i64 x'.2)) N kM kR P Q x' y :=
  ⟨h.p.set' (by omega) _ _, h.q.set' (by omega) _ _, h.m.wrote, h.r.set' (by omega) _ _, (h.bel.setCell (p := ⟨kM, 0, none⟩) (show N ≤ kM by omega) _).setCell (p := ⟨kM, 1, none⟩) (show N ≤ kM by omega) _⟩
theorem Z4.setR {w W : World} {N kM kR : Nat} {P Q x y : Int × Int} (h : Z4 w W N kM kR P Q x y) (h1 : N + 1 < kM) (h2 : kM < kR) (y' : Int × Int) : Z4 w ((W.setCell ⟨kR, 0, none⟩ (.int .i64 y'.1)).setCell ⟨kR, 1, none⟩ (.int .i64 y'.2)) N kM kR P Q x y' :=
  ⟨h.p.set' (by omega) _ _, h.q.set' (by omega) _ _, h.m.set' (by omega) _ _, h.r.wrote, (h.bel.setCell (p := ⟨kR, 0, none⟩) (show N ≤ kR by omega) _).setCell (p := ⟨kR, 1, none⟩) (show N ≤ kR by omega) _⟩
theorem sp_pair (x y : Int) (hx : i64 x) (hy : i64 y) : Sp (min x y, max x y) := by unfold Sp; unfold i64 at hx hy; dsimp only; omega
set_option maxRecDepth 100000 in
set_option maxHeartbeats 32000000 in
theorem smakes_walk (op al ah bl bh : Int) (w : World) (h1 : i64 al) (h2 : i64 ah) (h3 : i64 bl) (h4 : i64 bh) : Calls Try.prog 4 #[.int .i64 op, .agg #[.int .i64 al, .int .i64 ah], .agg #[.int .i64 bl, .int .i64 bh]] w fun e w' => e = .returned (.bool true) ∧ Below w.heap.size w w' := by
  have cF := fun w => fix_pair al ah w
  have cG := fun w => fix_pair bl bh w
  have hP := sp_pair al ah h1 h2
  have hQ := sp_pair bl bh h3 h4
  clear h1 h2 h3 h4
  generalize (min al ah, max al ah) = P at *
  generalize (min bl bh, max bl bh) = Q at *
  have c1 := fun w => one_any op P w hP
  have c2 := fun w => oner_any op P w hP
  have c3 := fun w => two_any op P Q w hP hQ
  have c4 := fun w => twor_any op P Q w hP hQ
  have c5 := fun y w => branch_any P y w
  have c6 := fun y w => branchr_any P y w
  clear hP hQ
  generalize oneP op P = r1 at *
  generalize twoP op P Q = r2 at *
  generalize branchP P = rB at *
  have x0 : Bz ((w.alloc (.cells #[.int .i64 al, .int .i64 ah] 23)).alloc (.cells #[.int .i64 bl, .int .i64 bh] 23)) w.heap.size al ah := (Bz.new w al ah 23).keep ((Below.refl _ _).alloc (Nat.le_refl _) _)
  have x1 : Bz ((w.alloc (.cells #[.int .i64 al, .int .i64 ah] 23)).alloc (.cells #[.int .i64 bl, .int .i64 bh] 23)) (w.heap.size + 1) bl bh := by simpa using Bz.new (w.alloc (.cells #[.int .i64 al, .int .i64 ah] 23)) bl bh 23
  have x2 : Below w.heap.size w ((w.alloc (.cells #[.int .i64 al, .int .i64 ah] 23)).alloc (.cells #[.int .i64 bl, .int .i64 bh] 23)) := (by repeat (first | exact Below.refl _ _ | (refine Below.drew ?_) | (refine below_drewN ?_ _) | (refine Below.setCell ?_ (by first | omega | (simp; done) | (simp; omega)) _) | (refine Below.alloc ?_ (by first | omega | (simp; done) | (simp; omega)) _) | (refine Below.trans ?_ (Below.mono (by assumption) (by first | omega | (simp; done) | (simp; omega))))))
  go_enter Try.func4, Try.ntmps4
  go_upto_region 1 with fail
  go_name_world W hW
  rw [hW] at x0 x1 x2
  clear hW
  obtain ⟨N, hN⟩ : ∃ N, N = w.heap.size := ⟨_, rfl⟩
  rw [← hN] at x0 x1 x2 ⊢
  have HN : Hid (N = w.heap.size) := hN
  clear hN
  have R : Hid (Bz W N al ah ∧ Bz W (N + 1) bl bh ∧ Below N w W) := ⟨x0, x1, x2⟩
  clear x0 x1 x2
  have HCL : Hid (∀ a b : World, (N + 1 < a.heap.size ∧ Hid (Below N w a)) → Below a.heap.size a b → (N + 1 < b.heap.size ∧ Hid (Below N w b))) := fun a b h hb => ⟨Nat.lt_of_lt_of_le h.1 hb.size, h.2.out.trans (hb.mono (Nat.le_trans (Nat.le_succ _) (Nat.le_of_lt h.1)))⟩
  have HST : Hid (∀ (a : World) (q : Nat) (v u : Value), N ≤ q → (N + 1 < a.heap.size ∧ Hid (Below N w a)) → (N + 1 < ((a.setCell ⟨q, 0, none⟩ v).setCell ⟨q, 1, none⟩ u).heap.size ∧ Hid (Below N w ((a.setCell ⟨q, 0, none⟩ v).setCell ⟨q, 1, none⟩ u)))) := fun a q v u hq h => ⟨by simpa using h.1, (h.2.out.setCell (p := ⟨q, 0, none⟩) hq v).setCell (p := ⟨q, 1, none⟩) hq u⟩
  go_cut [6] (fun v6 wx => v6 = .bool false ∧ Hid (Bx wx N P.1 P.2 ∧ Bx wx (N + 1) Q.1 Q.2 ∧ Below N w wx))
  case first =>
    refine wp_region_held_drew (S := fun w' => N + 1 < w'.heap.size ∧ Hid (Below N w w')) (by kernel_rfl) (HCL.out _ _ ⟨R.out.2.1.1.lt, R.out.2.2⟩ ((Below.refl _ _).drew)) (fun hH0 => ?_)
    have X0 : Bz W.drew N al ah := (R.out.1).keep ((Below.refl _ _).drew)
    have Y0 : Bz W.drew (N + 1) bl bh := (R.out.2.1).keep ((Below.refl _ _).drew)
    obtain ⟨w0, hw0⟩ : ∃ w0, w0 = W.drew := ⟨_, rfl⟩
    rw [← hw0] at hH0 X0 Y0 ⊢
    clear hw0
    refine wpAnyH_ready (rs := [0, 2]) (by kernel_rfl) (by simp) ?_
    refine AllReadyH.cons (o := ({ dst := some 12, op := Op.load 23 (Operand.tmp 4), type := 23, pos := "law.go:37", after := #[], guard := none } : Oper)) rfl (fun K hK => ?_) (AllReadyH.cons (o := ({ dst := some 14, op := Op.load 23 (Operand.tmp 5), type := 23, pos := "law.go:37", after := #[], guard := none } : Oper)) rfl (fun K hK => ?_) AllReadyH.nil)
    · have cX0 := X0.1.1
      have cX1 := X0.1.2
      have cX2 := X0.2.1
      have cX3 := X0.2.2
      have cY0 := Y0.1.1
      have cY1 := Y0.1.2
      have cY2 := Y0.2.1
      have cY3 := Y0.2.2
      go_simp
      refine hK.out _ _ hH0 (fun _ => ?_)
      clear hK K cX0 cX1 cX2 cX3 cY0 cY1 cY2 cY3
      refine wpAnyH_ready (rs := [1, 2]) (by kernel_rfl) (by simp) ?_
      refine AllReadyH.cons (o := ({ dst := some 13, op := Op.call { callee := Callee.value (Operand.func 11), args := #[Operand.tmp 12], argTypes := #[23] }, type := 23, pos := "law.go:37", after := #[{ on := 0, ground := Ground.data }], guard := none } : Oper)) rfl (fun K hK => ?_) (AllReadyH.cons (o := ({ dst := some 14, op := Op.load 23 (Operand.tmp 5), type := 23, pos := "law.go:37", after := #[], guard := none } : Oper)) rfl (fun K hK => ?_) AllReadyH.nil)
      · have cX0 := X0.1.1
        have cX1 := X0.1.2
        have cX2 := X0.2.1
        have cX3 := X0.2.2
        have cY0 := Y0.1.1
        have cY1 := Y0.1.2
        have cY2 := Y0.2.1
        have cY3 := Y0.2.2
        go_simp
        go_at_call 11
        refine (bel2 (cF _)).mono ?_
        rintro e w1 ⟨rfl, hb1⟩
        have X1 := X0.keep hb1
        have Y1 := Y0.keep hb1
        refine hK.out _ _ (HCL.out _ _ hH0 hb1) (fun hH1 => ?_)
        clear hK K cX0 cX1 cX2 cX3 cY0 cY1 cY2 cY3
        refine wpAnyH_ready (rs := [2]) (by kernel_rfl) (by simp) ?_
        refine AllReadyH.cons (o := ({ dst := some 14, op := Op.load 23 (Operand.tmp 5), type := 23, pos := "law.go:37", after := #[], guard := none } : Oper)) rfl (fun K hK => ?_) AllReadyH.nil
        · have cX0 := X1.1.1
          have cX1 := X1.1.2
          have cX2 := X1.2.1
          have cX3 := X1.2.2
          have cY0 := Y1.1.1
          have cY1 := Y1.1.2
          have cY2 := Y1.2.1
          have cY3 := Y1.2.2
          go_simp
          refine hK.out _ _ hH1 (fun _ => ?_)
          clear hK K cX0 cX1 cX2 cX3 cY0 cY1 cY2 cY3
          refine wpAnyH_ready (rs := [3]) (by kernel_rfl) (by simp) ?_
          refine AllReadyH.cons (o := ({ dst := some 15, op := Op.call { callee := Callee.value (Operand.func 11), args := #[Operand.tmp 14], argTypes := #[23] }, type := 23, pos := "law.go:37", after := #[{ on := 2, ground := Ground.data }, { on := 1, ground := Ground.chain }], guard := none } : Oper)) rfl (fun K hK => ?_) AllReadyH.nil
          · have cX0 := X1.1.1
            have cX1 := X1.1.2
            have cX2 := X1.2.1
            have cX3 := X1.2.2
            have cY0 := Y1.1.1
            have cY1 := Y1.1.2
            have cY2 := Y1.2.1
            have cY3 := Y1.2.2
            go_simp
            go_at_call 11
            refine (bel2 (cG _)).mono ?_
            rintro e w2 ⟨rfl, hb2⟩
            have X2 := X1.keep hb2
            have Y2 := Y1.keep hb2
            refine hK.out _ _ (HCL.out _ _ hH1 hb2) (fun hH2 => ?_)
            clear hK K cX0 cX1 cX2 cX3 cY0 cY1 cY2 cY3
            refine wpAnyH_ready (rs := [4]) (by kernel_rfl) (by simp) ?_
            refine AllReadyH.cons (o := ({ dst := none, op := Op.store 23 (Operand.tmp 4) (Operand.tmp 13), type := 0, pos := "law.go:37", after := #[{ on := 1, ground := Ground.data }, { on := 3, ground := Ground.chain }, { on := 0, ground := Ground.phase }, { on := 1, ground := Ground.phase }, { on := 2, ground := Ground.textOnly Departure.lateStores }, { on := 3, ground := Ground.textOnly Departure.lateStoresUnsure }], guard := none } : Oper)) rfl (fun K hK => ?_) AllReadyH.nil
            · have cX0 := X2.1.1
              have cX1 := X2.1.2
              have cX2 := X2.2.1
              have cX3 := X2.2.2
              have cY0 := Y2.1.1
              have cY1 := Y2.1.2
              have cY2 := Y2.2.1
              have cY3 := Y2.2.2
              go_simp
              have X3 := X2.wrote (x' := P.1) (y' := P.2)
              have Y3 := Y2.set' (q := N) (by omega) (.int .i64 P.1) (.int .i64 P.2)
              refine hK.out _ _ (HST.out _ (N) _ _ (by omega) hH2) (fun hH3 => ?_)
              clear hK K cX0 cX1 cX2 cX3 cY0 cY1 cY2 cY3
              obtain ⟨w3, hw3⟩ : ∃ w3, w3 = ((w2.setCell ⟨N, 0, none⟩ (.int .i64 P.1)).setCell ⟨N, 1, none⟩ (.int .i64 P.2)) := ⟨_, rfl⟩
              rw [← hw3] at hH3 X3 Y3 ⊢
              clear hw3
              refine wpAnyH_ready (rs := [5]) (by kernel_rfl) (by simp) ?_
              refine AllReadyH.cons (o := ({ dst := none, op := Op.store 23 (Operand.tmp 5) (Operand.tmp 15), type := 0, pos := "law.go:37", after := #[{ on := 3, ground := Ground.data }, { on := 4, ground := Ground.chain }, { on := 0, ground := Ground.phase }, { on := 1, ground := Ground.phase }, { on := 2, ground := Ground.phase }, { on := 3, ground := Ground.phase }, { on := 4, ground := Ground.phase }], guard := none } : Oper)) rfl (fun K hK => ?_) AllReadyH.nil
              · have cX0 := X3.1.1
                have cX1 := X3.1.2
                have cX2 := X3.2.1
                have cX3 := X3.2.2
                have cY0 := Y3.1.1
                have cY1 := Y3.1.2
                have cY2 := Y3.2.1
                have cY3 := Y3.2.2
                go_simp
                have Y4 := Y3.wrote (x' := Q.1) (y' := Q.2)
                have X4 := X3.set' (q := (N + 1)) (by omega) (.int .i64 Q.1) (.int .i64 Q.2)
                refine hK.out _ _ (HST.out _ ((N + 1)) _ _ (by omega) hH3) (fun hH4 => ?_)
                clear hK K cX0 cX1 cX2 cX3 cY0 cY1 cY2 cY3
                obtain ⟨w4, hw4⟩ : ∃ w4, w4 = ((w3.setCell ⟨(N + 1), 0, none⟩ (.int .i64 Q.1)).setCell ⟨(N + 1), 1, none⟩ (.int .i64 Q.2)) := ⟨_, rfl⟩
                rw [← hw4] at hH4 X4 Y4 ⊢
                clear hw4
                refine wpAnyH_done (by kernel_rfl) ?_ _
                go_wp2
                go_meet
                case rel => exact ⟨rfl, X4.1, Y4.1, hH4.2.out⟩
      · have cX0 := X0.1.1
        have cX1 := X0.1.2
        have cX2 := X0.2.1
        have cX3 := X0.2.2
        have cY0 := Y0.1.1
        have cY1 := Y0.1.2
        have cY2 := Y0.2.1
        have cY3 := Y0.2.2
        go_simp
        refine hK.out _ _ hH0 (fun _ => ?_)
        clear hK K cX0 cX1 cX2 cX3 cY0 cY1 cY2 cY3
        refine wpAnyH_ready (rs := [1]) (by kernel_rfl) (by simp) ?_
        refine AllReadyH.cons (o := ({ dst := some 13, op := Op.call { callee := Callee.value (Operand.func 11), args := #[Operand.tmp 12], argTypes := #[23] }, type := 23, pos := "law.go:37", after := #[{ on := 0, ground := Ground.data }], guard := none } : Oper)) rfl (fun K hK => ?_) AllReadyH.nil
        · have cX0 := X0.1.1
          have cX1 := X0.1.2
          have cX2 := X0.2.1
          have cX3 := X0.2.2
          have cY0 := Y0.1.1
          have cY1 := Y0.1.2
          have cY2 := Y0.2.1
          have cY3 := Y0.2.2
          go_simp
          go_at_call 11
          refine (bel2 (cF _)).mono ?_
          rintro e w1 ⟨rfl, hb1⟩
          have X1 := X0.keep hb1
          have Y1 := Y0.keep hb1
          refine hK.out _ _ (HCL.out _ _ hH0 hb1) (fun hH1 => ?_)
          clear hK K cX0 cX1 cX2 cX3 cY0 cY1 cY2 cY3
          refine wpAnyH_ready (rs := [3]) (by kernel_rfl) (by simp) ?_
          refine AllReadyH.cons (o := ({ dst := some 15, op := Op.call { callee := Callee.value (Operand.func 11), args := #[Operand.tmp 14], argTypes := #[23] }, type := 23, pos := "law.go:37", after := #[{ on := 2, ground := Ground.data }, { on := 1, ground := Ground.chain }], guard := none } : Oper)) rfl (fun K hK => ?_) AllReadyH.nil
          · have cX0 := X1.1.1
            have cX1 := X1.1.2
            have cX2 := X1.2.1
            have cX3 := X1.2.2
            have cY0 := Y1.1.1
            have cY1 := Y1.1.2
            have cY2 := Y1.2.1
            have cY3 := Y1.2.2
            go_simp
            go_at_call 11
            refine (bel2 (cG _)).mono ?_
            rintro e w2 ⟨rfl, hb2⟩
            have X2 := X1.keep hb2
            have Y2 := Y1.keep hb2
            refine hK.out _ _ (HCL.out _ _ hH1 hb2) (fun hH2 => ?_)
            clear hK K cX0 cX1 cX2 cX3 cY0 cY1 cY2 cY3
            refine wpAnyH_ready (rs := [4]) (by kernel_rfl) (by simp) ?_
            refine AllReadyH.cons (o := ({ dst := none, op := Op.store 23 (Operand.tmp 4) (Operand.tmp 13), type := 0, pos := "law.go:37", after := #[{ on := 1, ground := Ground.data }, { on := 3, ground := Ground.chain }, { on := 0, ground := Ground.phase }, { on := 1, ground := Ground.phase }, { on := 2, ground := Ground.textOnly Departure.lateStores }, { on := 3, ground := Ground.textOnly Departure.lateStoresUnsure }], guard := none } : Oper)) rfl (fun K hK => ?_) AllReadyH.nil
            · have cX0 := X2.1.1
              have cX1 := X2.1.2
              have cX2 := X2.2.1
              have cX3 := X2.2.2
              have cY0 := Y2.1.1
              have cY1 := Y2.1.2
              have cY2 := Y2.2.1
              have cY3 := Y2.2.2
              go_simp
              have X3 := X2.wrote (x' := P.1) (y' := P.2)
              have Y3 := Y2.set' (q := N) (by omega) (.int .i64 P.1) (.int .i64 P.2)
              refine hK.out _ _ (HST.out _ (N) _ _ (by omega) hH2) (fun hH3 => ?_)
              clear hK K cX0 cX1 cX2 cX3 cY0 cY1 cY2 cY3
              obtain ⟨w3, hw3⟩ : ∃ w3, w3 = ((w2.setCell ⟨N, 0, none⟩ (.int .i64 P.1)).setCell ⟨N, 1, none⟩ (.int .i64 P.2)) := ⟨_, rfl⟩
              rw [← hw3] at hH3 X3 Y3 ⊢
              clear hw3
              refine wpAnyH_ready (rs := [5]) (by kernel_rfl) (by simp) ?_
              refine AllReadyH.cons (o := ({ dst := none, op := Op.store 23 (Operand.tmp 5) (Operand.tmp 15), type := 0, pos := "law.go:37", after := #[{ on := 3, ground := Ground.data }, { on := 4, ground := Ground.chain }, { on := 0, ground := Ground.phase }, { on := 1, ground := Ground.phase }, { on := 2, ground := Ground.phase }, { on := 3, ground := Ground.phase }, { on := 4, ground := Ground.phase }], guard := none } : Oper)) rfl (fun K hK => ?_) AllReadyH.nil
              · have cX0 := X3.1.1
                have cX1 := X3.1.2
                have cX2 := X3.2.1
                have cX3 := X3.2.2
                have cY0 := Y3.1.1
                have cY1 := Y3.1.2
                have cY2 := Y3.2.1
                have cY3 := Y3.2.2
                go_simp
                have Y4 := Y3.wrote (x' := Q.1) (y' := Q.2)
                have X4 := X3.set' (q := (N + 1)) (by omega) (.int .i64 Q.1) (.int .i64 Q.2)
                refine hK.out _ _ (HST.out _ ((N + 1)) _ _ (by omega) hH3) (fun hH4 => ?_)
                clear hK K cX0 cX1 cX2 cX3 cY0 cY1 cY2 cY3
                obtain ⟨w4, hw4⟩ : ∃ w4, w4 = ((w3.setCell ⟨(N + 1), 0, none⟩ (.int .i64 Q.1)).setCell ⟨(N + 1), 1, none⟩ (.int .i64 Q.2)) := ⟨_, rfl⟩
                rw [← hw4] at hH4 X4 Y4 ⊢
                clear hw4
                refine wpAnyH_done (by kernel_rfl) ?_ _
                go_wp2
                go_meet
                case rel => exact ⟨rfl, X4.1, Y4.1, hH4.2.out⟩
    · have cX0 := X0.1.1
      have cX1 := X0.1.2
      have cX2 := X0.2.1
      have cX3 := X0.2.2
      have cY0 := Y0.1.1
      have cY1 := Y0.1.2
      have cY2 := Y0.2.1
      have cY3 := Y0.2.2
      go_simp
      refine hK.out _ _ hH0 (fun _ => ?_)
      clear hK K cX0 cX1 cX2 cX3 cY0 cY1 cY2 cY3
      refine wpAnyH_ready (rs := [0]) (by kernel_rfl) (by simp) ?_
      refine AllReadyH.cons (o := ({ dst := some 12, op := Op.load 23 (Operand.tmp 4), type := 23, pos := "law.go:37", after := #[], guard := none } : Oper)) rfl (fun K hK => ?_) AllReadyH.nil
      · have cX0 := X0.1.1
        have cX1 := X0.1.2
        have cX2 := X0.2.1
        have cX3 := X0.2.2
        have cY0 := Y0.1.1
        have cY1 := Y0.1.2
        have cY2 := Y0.2.1
        have cY3 := Y0.2.2
        go_simp
        refine hK.out _ _ hH0 (fun _ => ?_)
        clear hK K cX0 cX1 cX2 cX3 cY0 cY1 cY2 cY3
        refine wpAnyH_ready (rs := [1]) (by kernel_rfl) (by simp) ?_
        refine AllReadyH.cons (o := ({ dst := some 13, op := Op.call { callee := Callee.value (Operand.func 11), args := #[Operand.tmp 12], argTypes := #[23] }, type := 23, pos := "law.go:37", after := #[{ on := 0, ground := Ground.data }], guard := none } : Oper)) rfl (fun K hK => ?_) AllReadyH.nil
        · have cX0 := X0.1.1
          have cX1 := X0.1.2
          have cX2 := X0.2.1
          have cX3 := X0.2.2
          have cY0 := Y0.1.1
          have cY1 := Y0.1.2
          have cY2 := Y0.2.1
          have cY3 := Y0.2.2
          go_simp
          go_at_call 11
          refine (bel2 (cF _)).mono ?_
          rintro e w1 ⟨rfl, hb1⟩
          have X1 := X0.keep hb1
          have Y1 := Y0.keep hb1
          refine hK.out _ _ (HCL.out _ _ hH0 hb1) (fun hH1 => ?_)
          clear hK K cX0 cX1 cX2 cX3 cY0 cY1 cY2 cY3
          refine wpAnyH_ready (rs := [3]) (by kernel_rfl) (by simp) ?_
          refine AllReadyH.cons (o := ({ dst := some 15, op := Op.call { callee := Callee.value (Operand.func 11), args := #[Operand.tmp 14], argTypes := #[23] }, type := 23, pos := "law.go:37", after := #[{ on := 2, ground := Ground.data }, { on := 1, ground := Ground.chain }], guard := none } : Oper)) rfl (fun K hK => ?_) AllReadyH.nil
          · have cX0 := X1.1.1
            have cX1 := X1.1.2
            have cX2 := X1.2.1
            have cX3 := X1.2.2
            have cY0 := Y1.1.1
            have cY1 := Y1.1.2
            have cY2 := Y1.2.1
            have cY3 := Y1.2.2
            go_simp
            go_at_call 11
            refine (bel2 (cG _)).mono ?_
            rintro e w2 ⟨rfl, hb2⟩
            have X2 := X1.keep hb2
            have Y2 := Y1.keep hb2
            refine hK.out _ _ (HCL.out _ _ hH1 hb2) (fun hH2 => ?_)
            clear hK K cX0 cX1 cX2 cX3 cY0 cY1 cY2 cY3
            refine wpAnyH_ready (rs := [4]) (by kernel_rfl) (by simp) ?_
            refine AllReadyH.cons (o := ({ dst := none, op := Op.store 23 (Operand.tmp 4) (Operand.tmp 13), type := 0, pos := "law.go:37", after := #[{ on := 1, ground := Ground.data }, { on := 3, ground := Ground.chain }, { on := 0, ground := Ground.phase }, { on := 1, ground := Ground.phase }, { on := 2, ground := Ground.textOnly Departure.lateStores }, { on := 3, ground := Ground.textOnly Departure.lateStoresUnsure }], guard := none } : Oper)) rfl (fun K hK => ?_) AllReadyH.nil
            · have cX0 := X2.1.1
              have cX1 := X2.1.2
              have cX2 := X2.2.1
              have cX3 := X2.2.2
              have cY0 := Y2.1.1
              have cY1 := Y2.1.2
              have cY2 := Y2.2.1
              have cY3 := Y2.2.2
              go_simp
              have X3 := X2.wrote (x' := P.1) (y' := P.2)
              have Y3 := Y2.set' (q := N) (by omega) (.int .i64 P.1) (.int .i64 P.2)
              refine hK.out _ _ (HST.out _ (N) _ _ (by omega) hH2) (fun hH3 => ?_)
              clear hK K cX0 cX1 cX2 cX3 cY0 cY1 cY2 cY3
              obtain ⟨w3, hw3⟩ : ∃ w3, w3 = ((w2.setCell ⟨N, 0, none⟩ (.int .i64 P.1)).setCell ⟨N, 1, none⟩ (.int .i64 P.2)) := ⟨_, rfl⟩
              rw [← hw3] at hH3 X3 Y3 ⊢
              clear hw3
              refine wpAnyH_ready (rs := [5]) (by kernel_rfl) (by simp) ?_
              refine AllReadyH.cons (o := ({ dst := none, op := Op.store 23 (Operand.tmp 5) (Operand.tmp 15), type := 0, pos := "law.go:37", after := #[{ on := 3, ground := Ground.data }, { on := 4, ground := Ground.chain }, { on := 0, ground := Ground.phase }, { on := 1, ground := Ground.phase }, { on := 2, ground := Ground.phase }, { on := 3, ground := Ground.phase }, { on := 4, ground := Ground.phase }], guard := none } : Oper)) rfl (fun K hK => ?_) AllReadyH.nil
              · have cX0 := X3.1.1
                have cX1 := X3.1.2
                have cX2 := X3.2.1
                have cX3 := X3.2.2
                have cY0 := Y3.1.1
                have cY1 := Y3.1.2
                have cY2 := Y3.2.1
                have cY3 := Y3.2.2
                go_simp
                have Y4 := Y3.wrote (x' := Q.1) (y' := Q.2)
                have X4 := X3.set' (q := (N + 1)) (by omega) (.int .i64 Q.1) (.int .i64 Q.2)
                refine hK.out _ _ (HST.out _ ((N + 1)) _ _ (by omega) hH3) (fun hH4 => ?_)
                clear hK K cX0 cX1 cX2 cX3 cY0 cY1 cY2 cY3
                obtain ⟨w4, hw4⟩ : ∃ w4, w4 = ((w3.setCell ⟨(N + 1), 0, none⟩ (.int .i64 Q.1)).setCell ⟨(N + 1), 1, none⟩ (.int .i64 Q.2)) := ⟨_, rfl⟩
                rw [← hw4] at hH4 X4 Y4 ⊢
                clear hw4
                refine wpAnyH_done (by kernel_rfl) ?_ _
                go_wp2
                go_meet
                case rel => exact ⟨rfl, X4.1, Y4.1, hH4.2.out⟩
  case rest =>
    obtain ⟨rfl, HH⟩ := hcut
    clear R HCL HST cF cG
    have f0 := HH.out.1.1
    have f1 := HH.out.1.2
    go_upto_region 3 with (first | (go_at_call 10; refine (bel2 (to_any _ _ _)).mono ?_; rintro e wK ⟨rfl, hK⟩) | (go_at_call 27; refine (c1 _).mono ?_; rintro e wL ⟨rfl, hL⟩))
    go_name_world W2 hW2
    have H2 : Hid (Bx W2 N P.1 P.2 ∧ Bx W2 (N + 1) Q.1 Q.2 ∧ Bz W2 wL.heap.size r1.1.1 r1.1.2 ∧ Below N w W2 ∧ N + 1 < wL.heap.size) := by
      rw [← hW2]
      have k := (HH.out.1.keep hK).keep hL
      have k2 := (HH.out.2.1.keep hK).keep hL
      have u := (HH.out.2.2.trans (hK.mono (Nat.le_of_lt HH.out.1.lt))).trans (hL.mono (Nat.le_of_lt (HH.out.1.keep hK).lt))
      exact ⟨k.keep ((Below.refl _ _).alloc (Nat.le_refl _) _), k2.keep ((Below.refl _ _).alloc (Nat.le_refl _) _), Bz.new _ _ _ _, u.alloc (Nat.le_of_lt k.lt) _, k2.lt⟩
    clear hW2 hK hL HH f0 f1 c1
    generalize wL.heap.size = kM at *
    have f0 := H2.out.1.1
    have f1 := H2.out.1.2
    go_upto_region 4 with (go_at_call 28; refine (c2 _).mono ?_; rintro e wK ⟨rfl, hK⟩)
    go_name_world W3 hW3
    have H3 : Hid (Z4 w W3 N kM wK.heap.size P Q r1.1 r1.1) := by
      rw [← hW3]
      exact ⟨(H2.out.1.keep hK).keep ((Below.refl _ _).alloc (Nat.le_refl _) _), (H2.out.2.1.keep hK).keep ((Below.refl _ _).alloc (Nat.le_refl _) _), (H2.out.2.2.1.keep hK).keep ((Below.refl _ _).alloc (Nat.le_refl _) _), Bz.new _ _ _ _, (H2.out.2.2.2.1.trans (hK.mono (Nat.le_of_lt H2.out.1.lt))).alloc (Nat.le_of_lt (H2.out.1.keep hK).lt) _⟩
    have o1 := H2.out.2.2.2.2
    have o2 : kM < wK.heap.size := (H2.out.2.2.1.keep hK).1.lt
    clear hW3 hK H2 f0 f1 c2
    generalize wK.heap.size = kR at *
    have HCL : Hid (∀ a b : World, (a.cell? ⟨kM, 0, none⟩ = some (.int .i64 r1.1.1) ∧ a.cell? ⟨kM, 1, none⟩ = some (.int .i64 r1.1.2) ∧ kM < a.heap.size ∧ a.cell? ⟨kR, 0, none⟩ = some (.int .i64 r1.1.1) ∧ a.cell? ⟨kR, 1, none⟩ = some (.int .i64 r1.1.2) ∧ kR < a.heap.size ∧ Hid (Z4 w a N kM kR P Q r1.1 r1.1)) → Below a.heap.size a b → (b.cell? ⟨kM, 0, none⟩ = some (.int .i64 r1.1.1) ∧ b.cell? ⟨kM, 1, none⟩ = some (.int .i64 r1.1.2) ∧ kM < b.heap.size ∧ b.cell? ⟨kR, 0, none⟩ = some (.int .i64 r1.1.1) ∧ b.cell? ⟨kR, 1, none⟩ = some (.int .i64 r1.1.2) ∧ kR < b.heap.size ∧ Hid (Z4 w b N kM kR P Q r1.1 r1.1))) := fun a b h hb => by
      have z := (h.2.2.2.2.2.2).out.keep hb
      exact ⟨z.m.1.1, z.m.1.2, z.m.1.lt, z.r.1.1, z.r.1.2, z.r.1.lt, z⟩
    have hS0 : W3.cell? ⟨kM, 0, none⟩ = some (.int .i64 r1.1.1) ∧ W3.cell? ⟨kM, 1, none⟩ = some (.int .i64 r1.1.2) ∧ kM < W3.heap.size ∧ W3.cell? ⟨kR, 0, none⟩ = some (.int .i64 r1.1.1) ∧ W3.cell? ⟨kR, 1, none⟩ = some (.int .i64 r1.1.2) ∧ kR < W3.heap.size ∧ Hid (Z4 w W3 N kM kR P Q r1.1 r1.1) := ⟨H3.out.m.1.1, H3.out.m.1.2, H3.out.m.1.lt, H3.out.r.1.1, H3.out.r.1.2, H3.out.r.1.lt, H3⟩
    refine wp_region_held_drew (S := fun w' => w'.cell? ⟨kM, 0, none⟩ = some (.int .i64 r1.1.1) ∧ w'.cell? ⟨kM, 1, none⟩ = some (.int .i64 r1.1.2) ∧ kM < w'.heap.size ∧ w'.cell? ⟨kR, 0, none⟩ = some (.int .i64 r1.1.1) ∧ w'.cell? ⟨kR, 1, none⟩ = some (.int .i64 r1.1.2) ∧ kR < w'.heap.size ∧ Hid (Z4 w w' N kM kR P Q r1.1 r1.1)) (by kernel_rfl) (HCL.out _ _ hS0 ((Below.refl _ _).drew)) (fun hHeld => ?_)
    refine wpAnyH_ready (rs := [0]) (by kernel_rfl) (by simp) ?_
    refine AllReadyH.cons (o := ({ dst := some 29, op := Op.call { callee := Callee.value (Operand.func 14), args := #[], argTypes := #[] }, type := 4, pos := "law.go:40", after := #[], guard := none } : Oper)) rfl (fun K hK => ?_) AllReadyH.nil
    go_simp
    go_at_call 14
    refine (lift (told_any _) (by assumption) HCL.out).mono ?_
    rintro e v1 ⟨rfl, g1⟩
    refine hK.out _ _ g1 (fun hHeld => ?_)
    clear hK K
    refine wpAnyH_take (i := 1) (oi := ({ dst := some 30, op := Op.unOp UnOp.not 4 (Operand.tmp 29), type := 4, pos := "law.go:40", after := #[{ on := 0, ground := Ground.data }], guard := none } : Oper)) (v := ?_) rfl (by kernel_rfl) (by kernel_rfl) (by kernel_rfl) (fun _ _ _ h => h) (Or.inl ⟨by rfl, ?_⟩) (by assumption) ?_
    rotate_left
    · (intro wz hSw; (try dsimp only at hSw); go_simp; try with_reducible rfl)
    simp only [Act.put, List.setIfInBounds_toArray, List.set_cons_zero, List.set_cons_succ]
    refine wpAnyH_take (i := 2) (oi := ({ dst := some 31, op := Op.move (Operand.tmp 30), type := 4, pos := "law.go:40", after := #[{ on := 1, ground := Ground.data }, { on := 0, ground := Ground.chain }], guard := none } : Oper)) (v := ?_) rfl (by kernel_rfl) (by kernel_rfl) (by kernel_rfl) (fun _ _ _ h => h) (Or.inl ⟨by rfl, ?_⟩) (by assumption) ?_
    rotate_left
    · (intro wz hSw; (try dsimp only at hSw); go_simp; try with_reducible rfl)
    simp only [Act.put, List.setIfInBounds_toArray, List.set_cons_zero, List.set_cons_succ]
    refine wpAnyH_take (i := 3) (oi := ({ dst := some 32, op := Op.load 25 (Operand.tmp 7), type := 25, pos := "law.go:40", after := #[{ on := 2, ground := Ground.guard }], guard := some (2, false) } : Oper)) (v := ?_) rfl (by kernel_rfl) (by kernel_rfl) (by kernel_rfl) (fun _ _ _ h => h) (Or.inl ⟨by rfl, ?_⟩) (by assumption) ?_
    rotate_left
    · (intro wz hSw; (try dsimp only at hSw); go_simp; try with_reducible rfl)
    simp only [Act.put, List.setIfInBounds_toArray, List.set_cons_zero, List.set_cons_succ]
    refine wpAnyH_take (i := 5) (oi := ({ dst := some 34, op := Op.load 23 (Operand.tmp 9), type := 23, pos := "law.go:40", after := #[{ on := 2, ground := Ground.guard }], guard := some (2, false) } : Oper)) (v := ?_) rfl (by kernel_rfl) (by kernel_rfl) (by kernel_rfl) (fun _ _ _ h => h) (Or.inl ⟨by rfl, ?_⟩) (by assumption) ?_
    rotate_left
    · (intro wz hSw; (try dsimp only at hSw); go_simp; try with_reducible rfl)
    simp only [Act.put, List.setIfInBounds_toArray, List.set_cons_zero, List.set_cons_succ]
    refine wpAnyH_ready (rs := [4]) (by kernel_rfl) (by simp) ?_
    refine AllReadyH.cons (o := ({ dst := some 33, op := Op.call { callee := Callee.value (Operand.func 15), args := #[Operand.tmp 32], argTypes := #[25] }, type := 23, pos := "law.go:40", after := #[{ on := 3, ground := Ground.data }, { on := 2, ground := Ground.chain }, { on := 2, ground := Ground.guard }], guard := some (2, false) } : Oper)) rfl (fun K hK => ?_) AllReadyH.nil
    go_simp
    go_at_call 15
    refine (lift (bel2 (from_any _ _ _)) (by assumption) HCL.out).mono ?_
    rintro e v2 ⟨rfl, g2⟩
    refine hK.out _ _ g2 (fun hHeld => ?_)
    clear hK K
    refine wpAnyH_take (i := 6) (oi := ({ dst := some 35, op := Op.binOp BinOp.neq 23 (Operand.tmp 33) (Operand.tmp 34) 23, type := 4, pos := "law.go:40", after := #[{ on := 4, ground := Ground.data }, { on := 5, ground := Ground.data }, { on := 2, ground := Ground.guard }], guard := some (2, false) } : Oper)) (v := ?_) rfl (by kernel_rfl) (by kernel_rfl) (by kernel_rfl) (fun _ _ _ h => h) (Or.inl ⟨by rfl, ?_⟩) (by assumption) ?_
    rotate_left
    · (intro wz hSw; (try dsimp only at hSw); go_simp; try with_reducible rfl)
    simp only [Act.put, List.setIfInBounds_toArray, List.set_cons_zero, List.set_cons_succ]
    refine wpAnyH_take (i := 7) (oi := ({ dst := some 36, op := Op.pick (Operand.tmp 31) (Operand.const (Value.bool true)) (Operand.tmp 35), type := 4, pos := "law.go:40", after := #[{ on := 2, ground := Ground.data }, { on := 6, ground := Ground.data }], guard := none } : Oper)) (v := ?_) rfl (by kernel_rfl) (by kernel_rfl) (by kernel_rfl) (fun _ _ _ h => h) (Or.inl ⟨by rfl, ?_⟩) (by assumption) ?_
    rotate_left
    · (intro wz hSw; (try dsimp only at hSw); go_simp; try with_reducible rfl)
    simp only [Act.put, List.setIfInBounds_toArray, List.set_cons_zero, List.set_cons_succ]
    refine wpAnyH_take (i := 8) (oi := ({ dst := some 37, op := Op.move (Operand.tmp 36), type := 4, pos := "law.go:40", after := #[{ on := 7, ground := Ground.data }, { on := 4, ground := Ground.chain }], guard := none } : Oper)) (v := ?_) rfl (by kernel_rfl) (by kernel_rfl) (by kernel_rfl) (fun _ _ _ h => h) (Or.inl ⟨by rfl, ?_⟩) (by assumption) ?_
    rotate_left
    · (intro wz hSw; (try dsimp only at hSw); go_simp; try with_reducible rfl)
    simp only [Act.put, List.setIfInBounds_toArray, List.set_cons_zero, List.set_cons_succ]
    refine wpAnyH_take (i := 9) (oi := ({ dst := some 38, op := Op.move (Operand.tmp 8), type := 4, pos := "law.go:40", after := #[{ on := 8, ground := Ground.guard }], guard := some (8, false) } : Oper)) (v := ?_) rfl (by kernel_rfl) (by kernel_rfl) (by kernel_rfl) (fun _ _ _ h => h) (Or.inl ⟨by rfl, ?_⟩) (by assumption) ?_
    rotate_left
    · (intro wz hSw; (try dsimp only at hSw); go_simp; try with_reducible rfl)
    simp only [Act.put, List.setIfInBounds_toArray, List.set_cons_zero, List.set_cons_succ]
    refine wpAnyH_take (i := 10) (oi := ({ dst := some 39, op := Op.move (Operand.tmp 10), type := 4, pos := "law.go:40", after := #[{ on := 8, ground := Ground.guard }], guard := some (8, false) } : Oper)) (v := ?_) rfl (by kernel_rfl) (by kernel_rfl) (by kernel_rfl) (fun _ _ _ h => h) (Or.inl ⟨by rfl, ?_⟩) (by assumption) ?_
    rotate_left
    · (intro wz hSw; (try dsimp only at hSw); go_simp; try with_reducible rfl)
    simp only [Act.put, List.setIfInBounds_toArray, List.set_cons_zero, List.set_cons_succ]
    refine wpAnyH_take (i := 11) (oi := ({ dst := some 40, op := Op.binOp BinOp.neq 4 (Operand.tmp 38) (Operand.tmp 39) 4, type := 4, pos := "law.go:40", after := #[{ on := 9, ground := Ground.data }, { on := 10, ground := Ground.data }, { on := 8, ground := Ground.guard }], guard := some (8, false) } : Oper)) (v := ?_) rfl (by kernel_rfl) (by kernel_rfl) (by kernel_rfl) (fun _ _ _ h => h) (Or.inl ⟨by rfl, ?_⟩) (by assumption) ?_
    rotate_left
    · (intro wz hSw; (try dsimp only at hSw); go_simp; try with_reducible rfl)
    simp only [Act.put, List.setIfInBounds_toArray, List.set_cons_zero, List.set_cons_succ]
    refine wpAnyH_take (i := 12) (oi := ({ dst := some 41, op := Op.pick (Operand.tmp 37) (Operand.const (Value.bool true)) (Operand.tmp 40), type := 4, pos := "law.go:40", after := #[{ on := 8, ground := Ground.data }, { on := 11, ground := Ground.data }], guard := none } : Oper)) (v := ?_) rfl (by kernel_rfl) (by kernel_rfl) (by kernel_rfl) (fun _ _ _ h => h) (Or.inl ⟨by rfl, ?_⟩) (by assumption) ?_
    rotate_left
    · (intro wz hSw; (try dsimp only at hSw); go_simp; try with_reducible rfl)
    simp only [Act.put, List.setIfInBounds_toArray, List.set_cons_zero, List.set_cons_succ]
    refine wpAnyH_done (by kernel_rfl) ?_ _
    have H4 : Hid (Z4 w v2 N kM kR P Q r1.1 r1.1) := (g2.2.2.2.2.2.2)
    clear hS0 HCL hHeld H3 g1 g2
    go_upto_region 6 with fail
    have HCL : Hid (∀ a b : World, (a.cell? ⟨N, 0, none⟩ = some (.int .i64 P.1) ∧ a.cell? ⟨N, 1, none⟩ = some (.int .i64 P.2) ∧ N < a.heap.size ∧ a.cell? ⟨(N + 1), 0, none⟩ = some (.int .i64 Q.1) ∧ a.cell? ⟨(N + 1), 1, none⟩ = some (.int .i64 Q.2) ∧ (N + 1) < a.heap.size ∧ Hid (Below N w a)) → Below a.heap.size a b → (b.cell? ⟨N, 0, none⟩ = some (.int .i64 P.1) ∧ b.cell? ⟨N, 1, none⟩ = some (.int .i64 P.2) ∧ N < b.heap.size ∧ b.cell? ⟨(N + 1), 0, none⟩ = some (.int .i64 Q.1) ∧ b.cell? ⟨(N + 1), 1, none⟩ = some (.int .i64 Q.2) ∧ (N + 1) < b.heap.size ∧ Hid (Below N w b))) := fun a b h hb => by
      have x0 := Bx.keep ⟨h.1, h.2.1⟩ hb
      have x1 := Bx.keep ⟨h.2.2.2.1, h.2.2.2.2.1⟩ hb
      exact ⟨x0.1, x0.2, x0.lt, x1.1, x1.2, x1.lt, (h.2.2.2.2.2.2).out.trans (hb.mono (Nat.le_of_lt h.2.2.1))⟩
    have HST : Hid (∀ (a : World) (q : Nat) (v u : Value), N + 1 < q → (a.cell? ⟨N, 0, none⟩ = some (.int .i64 P.1) ∧ a.cell? ⟨N, 1, none⟩ = some (.int .i64 P.2) ∧ N < a.heap.size ∧ a.cell? ⟨(N + 1), 0, none⟩ = some (.int .i64 Q.1) ∧ a.cell? ⟨(N + 1), 1, none⟩ = some (.int .i64 Q.2) ∧ (N + 1) < a.heap.size ∧ Hid (Below N w a)) → (((a.setCell ⟨q, 0, none⟩ v).setCell ⟨q, 1, none⟩ u).cell? ⟨N, 0, none⟩ = some (.int .i64 P.1) ∧ ((a.setCell ⟨q, 0, none⟩ v).setCell ⟨q, 1, none⟩ u).cell? ⟨N, 1, none⟩ = some (.int .i64 P.2) ∧ N < ((a.setCell ⟨q, 0, none⟩ v).setCell ⟨q, 1, none⟩ u).heap.size ∧ ((a.setCell ⟨q, 0, none⟩ v).setCell ⟨q, 1, none⟩ u).cell? ⟨(N + 1), 0, none⟩ = some (.int .i64 Q.1) ∧ ((a.setCell ⟨q, 0, none⟩ v).setCell ⟨q, 1, none⟩ u).cell? ⟨(N + 1), 1, none⟩ = some (.int .i64 Q.2) ∧ (N + 1) < ((a.setCell ⟨q, 0, none⟩ v).setCell ⟨q, 1, none⟩ u).heap.size ∧ Hid (Below N w ((a.setCell ⟨q, 0, none⟩ v).setCell ⟨q, 1, none⟩ u)))) := fun a q v u hq h => by
      have x0 := Bx.set' (q := q) (p := N) (by omega) ⟨h.1, h.2.1⟩ v u
      have x1 := Bx.set' (q := q) (p := (N + 1)) (by omega) ⟨h.2.2.2.1, h.2.2.2.2.1⟩ v u
      exact ⟨x0.1, x0.2, x0.lt, x1.1, x1.2, x1.lt, ((h.2.2.2.2.2.2).out.setCell (p := ⟨q, 0, none⟩) (show N ≤ q by omega) v).setCell (p := ⟨q, 1, none⟩) (show N ≤ q by omega) u⟩
    have hS0 : v2.cell? ⟨N, 0, none⟩ = some (.int .i64 P.1) ∧ v2.cell? ⟨N, 1, none⟩ = some (.int .i64 P.2) ∧ N < v2.heap.size ∧ v2.cell? ⟨(N + 1), 0, none⟩ = some (.int .i64 Q.1) ∧ v2.cell? ⟨(N + 1), 1, none⟩ = some (.int .i64 Q.2) ∧ (N + 1) < v2.heap.size ∧ Hid (Below N w v2) := ⟨H4.out.p.1, H4.out.p.2, H4.out.p.lt, H4.out.q.1, H4.out.q.2, H4.out.q.lt, H4.out.bel⟩
    have HM := hide H4.out.m
    have HR := hide H4.out.r
    clear H4
    go_cut [8] (fun v8 wy => v8 = .bool r2.2 ∧ Hid (Z4 w wy N kM kR P Q r2.1 r1.1))
    case first =>
      refine wp_region_held_drew (S := fun w' => w'.cell? ⟨N, 0, none⟩ = some (.int .i64 P.1) ∧ w'.cell? ⟨N, 1, none⟩ = some (.int .i64 P.2) ∧ N < w'.heap.size ∧ w'.cell? ⟨(N + 1), 0, none⟩ = some (.int .i64 Q.1) ∧ w'.cell? ⟨(N + 1), 1, none⟩ = some (.int .i64 Q.2) ∧ (N + 1) < w'.heap.size ∧ Hid (Below N w w')) (by kernel_rfl) (HCL.out _ _ hS0 ((Below.refl _ _).drew)) (fun hH0 => ?_)
      have M0 : Bz v2.drew kM r1.1.1 r1.1.2 := HM.out.keep ((Below.refl _ _).drew)
      have R0 : Bz v2.drew kR r1.1.1 r1.1.2 := HR.out.keep ((Below.refl _ _).drew)
      obtain ⟨w0, hw0⟩ : ∃ w0, w0 = v2.drew := ⟨_, rfl⟩
      rw [← hw0] at hH0 M0 R0 ⊢
      clear hw0
      refine wpAnyH_take (i := 0) (oi := ({ dst := some 43, op := Op.move (Operand.tmp 0), type := 3, pos := "law.go:43", after := #[], guard := none } : Oper)) (v := ?_) rfl (by kernel_rfl) (by kernel_rfl) (by kernel_rfl) (fun _ _ _ h => h) (Or.inl ⟨by rfl, ?_⟩) (by assumption) ?_
      rotate_left
      · (intro wz hSw; (try dsimp only at hSw); go_simp; try with_reducible rfl)
      simp only [Act.put, List.setIfInBounds_toArray, List.set_cons_zero, List.set_cons_succ]
      refine wpAnyH_take (i := 1) (oi := ({ dst := some 44, op := Op.load 23 (Operand.tmp 4), type := 23, pos := "law.go:43", after := #[], guard := none } : Oper)) (v := ?_) rfl (by kernel_rfl) (by kernel_rfl) (by kernel_rfl) (fun _ _ _ h => h) (Or.inl ⟨by rfl, ?_⟩) (by assumption) ?_
      rotate_left
      · (intro wz hSw; (try dsimp only at hSw); go_simp; try with_reducible rfl)
      simp only [Act.put, List.setIfInBounds_toArray, List.set_cons_zero, List.set_cons_succ]
      refine wpAnyH_take (i := 3) (oi := ({ dst := some 46, op := Op.load 23 (Operand.tmp 5), type := 23, pos := "law.go:43", after := #[], guard := none } : Oper)) (v := ?_) rfl (by kernel_rfl) (by kernel_rfl) (by kernel_rfl) (fun _ _ _ h => h) (Or.inl ⟨by rfl, ?_⟩) (by assumption) ?_
      rotate_left
      · (intro wz hSw; (try dsimp only at hSw); go_simp; try with_reducible rfl)
      simp only [Act.put, List.setIfInBounds_toArray, List.set_cons_zero, List.set_cons_succ]
      refine wpAnyH_ready (rs := [2]) (by kernel_rfl) (by simp) ?_
      refine AllReadyH.cons (o := ({ dst := some 45, op := Op.call { callee := Callee.value (Operand.func 10), args := #[Operand.tmp 44], argTypes := #[23] }, type := 25, pos := "law.go:43", after := #[{ on := 1, ground := Ground.data }], guard := none } : Oper)) rfl (fun K hK => ?_) AllReadyH.nil
      · go_simp
        go_at_call 10
        refine (bel2 (to_any _ _ _)).mono ?_
        rintro e w1 ⟨rfl, hb1⟩
        have M1 := M0.keep hb1
        have R1 := R0.keep hb1
        refine hK.out _ _ (HCL.out _ _ hH0 hb1) (fun hH1 => ?_)
        clear hK K
        refine wpAnyH_ready (rs := [4]) (by kernel_rfl) (by simp) ?_
        refine AllReadyH.cons (o := ({ dst := some 47, op := Op.call { callee := Callee.value (Operand.func 10), args := #[Operand.tmp 46], argTypes := #[23] }, type := 25, pos := "law.go:43", after := #[{ on := 3, ground := Ground.data }, { on := 2, ground := Ground.chain }], guard := none } : Oper)) rfl (fun K hK => ?_) AllReadyH.nil
        · go_simp
          go_at_call 10
          refine (bel2 (to_any _ _ _)).mono ?_
          rintro e w2 ⟨rfl, hb2⟩
          have M2 := M1.keep hb2
          have R2 := R1.keep hb2
          refine hK.out _ _ (HCL.out _ _ hH1 hb2) (fun hH2 => ?_)
          clear hK K
          refine wpAnyH_ready (rs := [5]) (by kernel_rfl) (by simp) ?_
          refine AllReadyH.cons (o := ({ dst := some 48, op := Op.call { callee := Callee.value (Operand.func 29), args := #[Operand.tmp 43, Operand.tmp 45, Operand.tmp 47], argTypes := #[3, 25, 25] }, type := 28, pos := "law.go:43", after := #[{ on := 0, ground := Ground.data }, { on := 2, ground := Ground.data }, { on := 4, ground := Ground.data }, { on := 4, ground := Ground.chain }], guard := none } : Oper)) rfl (fun K hK => ?_) AllReadyH.nil
          · go_simp
            go_at_call 29
            refine (c3 _).mono ?_
            rintro e w3 ⟨rfl, hb3⟩
            have M3 := M2.keep hb3
            have R3 := R2.keep hb3
            refine hK.out _ _ (HCL.out _ _ hH2 hb3) (fun hH3 => ?_)
            clear hK K
            refine wpAnyH_take (i := 6) (oi := ({ dst := some 42, op := Op.move (Operand.tmp 48), type := 28, pos := "law.go:43", after := #[{ on := 5, ground := Ground.data }], guard := none } : Oper)) (v := ?_) rfl (by kernel_rfl) (by kernel_rfl) (by kernel_rfl) (fun _ _ _ h => h) (Or.inl ⟨by rfl, ?_⟩) (by assumption) ?_
            rotate_left
            · (intro wz hSw; (try dsimp only at hSw); go_simp; try with_reducible rfl)
            simp only [Act.put, List.setIfInBounds_toArray, List.set_cons_zero, List.set_cons_succ]
            refine wpAnyH_take (i := 7) (oi := ({ dst := some 49, op := Op.extract (Operand.tmp 42) 0, type := 25, pos := "law.go:43", after := #[{ on := 6, ground := Ground.data }], guard := none } : Oper)) (v := ?_) rfl (by kernel_rfl) (by kernel_rfl) (by kernel_rfl) (fun _ _ _ h => h) (Or.inl ⟨by rfl, ?_⟩) (by assumption) ?_
            rotate_left
            · (intro wz hSw; (try dsimp only at hSw); go_simp; try with_reducible rfl)
            simp only [Act.put, List.setIfInBounds_toArray, List.set_cons_zero, List.set_cons_succ]
            refine wpAnyH_take (i := 8) (oi := ({ dst := some 50, op := Op.extract (Operand.tmp 42) 1, type := 4, pos := "law.go:43", after := #[{ on := 6, ground := Ground.data }, { on := 9, ground := Ground.gcOnly Departure.lateStores }], guard := none } : Oper)) (v := ?_) rfl (by kernel_rfl) (by kernel_rfl) (by kernel_rfl) (fun _ _ _ h => h) (Or.inl ⟨by rfl, ?_⟩) (by assumption) ?_
            rotate_left
            · (intro wz hSw; (try dsimp only at hSw); go_simp; try with_reducible rfl)
            simp only [Act.put, List.setIfInBounds_toArray, List.set_cons_zero, List.set_cons_succ]
            refine wpAnyH_ready (rs := [9]) (by kernel_rfl) (by simp) ?_
            refine AllReadyH.cons (o := ({ dst := none, op := Op.store 25 (Operand.tmp 7) (Operand.tmp 49), type := 0, pos := "law.go:43", after := #[{ on := 7, ground := Ground.data }, { on := 5, ground := Ground.chain }, { on := 0, ground := Ground.phase }, { on := 1, ground := Ground.phase }, { on := 2, ground := Ground.phase }, { on := 3, ground := Ground.phase }, { on := 4, ground := Ground.phase }, { on := 5, ground := Ground.phase }, { on := 6, ground := Ground.phase }, { on := 7, ground := Ground.phase }, { on := 8, ground := Ground.textOnly Departure.lateStores }], guard := none } : Oper)) rfl (fun K hK => ?_) AllReadyH.nil
            · have c0 := M3.1.1
              have c1 := M3.1.2
              have c2 := M3.2.1
              have c3 := M3.2.2
              go_simp
              have M4 := M3.wrote (x' := r2.1.1) (y' := r2.1.2)
              have R4 := R3.set' (q := kM) (by omega) (.int .i64 r2.1.1) (.int .i64 r2.1.2)
              refine hK.out _ _ (HST.out _ kM _ _ (by omega) hH3) (fun hH4 => ?_)
              clear hK K c0 c1 c2 c3
              obtain ⟨w4, hw4⟩ : ∃ w4, w4 = ((w3.setCell ⟨kM, 0, none⟩ (.int .i64 r2.1.1)).setCell ⟨kM, 1, none⟩ (.int .i64 r2.1.2)) := ⟨_, rfl⟩
              rw [← hw4] at hH4 M4 R4 ⊢
              clear hw4
              refine wpAnyH_take (i := 10) (oi := ({ dst := some 8, op := Op.assign (Operand.tmp 50), type := 4, pos := "law.go:43", after := #[{ on := 8, ground := Ground.data }, { on := 9, ground := Ground.chain }, { on := 0, ground := Ground.phase }, { on := 1, ground := Ground.phase }, { on := 2, ground := Ground.phase }, { on := 3, ground := Ground.phase }, { on := 4, ground := Ground.phase }, { on := 5, ground := Ground.phase }, { on := 6, ground := Ground.phase }, { on := 7, ground := Ground.phase }, { on := 8, ground := Ground.phase }, { on := 9, ground := Ground.phase }], guard := none } : Oper)) (v := ?_) rfl (by kernel_rfl) (by kernel_rfl) (by kernel_rfl) (fun _ _ _ h => h) (Or.inl ⟨by rfl, ?_⟩) (by assumption) ?_
              rotate_left
              · (intro wz hSw; (try dsimp only at hSw); go_simp; try with_reducible rfl)
              simp only [Act.put, List.setIfInBounds_toArray, List.set_cons_zero, List.set_cons_succ]
              refine wpAnyH_done (by kernel_rfl) ?_ _
              go_wp2
              go_meet
              case rel => exact ⟨rfl, ⟨hH4.1, hH4.2.1⟩, ⟨hH4.2.2.2.1, hH4.2.2.2.2.1⟩, M4, R4, hH4.2.2.2.2.2.2.out⟩
    case rest =>
      obtain ⟨rfl, H6⟩ := hcut
      clear hS0 HCL HST HM HR c3
      have f0 := H6.out.p.1
      have f1 := H6.out.p.2
      have f2 := H6.out.q.1
      have f3 := H6.out.q.2
      go_upto_region 8 with (go_at_call 30; refine (c4 _).mono ?_; rintro e wK ⟨rfl, hK⟩; have K := H6.out.keep hK; have r0 := K.r.1.1; have r1_ := K.r.1.2; have r2_ := K.r.2.1; have r3 := K.r.2.2)
      go_name_world W7 hW7
      have H7 : Hid (Z4 w W7 N kM kR P Q r2.1 r2.1) := by
        rw [← hW7]
        exact K.setR o1 o2 r2.1
      clear hW7 hK K H6 f0 f1 f2 f3 r0 r1_ r2_ r3 c4
      have HCL : Hid (∀ a b : World, (a.cell? ⟨kM, 0, none⟩ = some (.int .i64 r2.1.1) ∧ a.cell? ⟨kM, 1, none⟩ = some (.int .i64 r2.1.2) ∧ kM < a.heap.size ∧ a.cell? ⟨kR, 0, none⟩ = some (.int .i64 r2.1.1) ∧ a.cell? ⟨kR, 1, none⟩ = some (.int .i64 r2.1.2) ∧ kR < a.heap.size ∧ Hid (Z4 w a N kM kR P Q r2.1 r2.1)) → Below a.heap.size a b → (b.cell? ⟨kM, 0, none⟩ = some (.int .i64 r2.1.1) ∧ b.cell? ⟨kM, 1, none⟩ = some (.int .i64 r2.1.2) ∧ kM < b.heap.size ∧ b.cell? ⟨kR, 0, none⟩ = some (.int .i64 r2.1.1) ∧ b.cell? ⟨kR, 1, none⟩ = some (.int .i64 r2.1.2) ∧ kR < b.heap.size ∧ Hid (Z4 w b N kM kR P Q r2.1 r2.1))) := fun a b h hb => by
        have z := (h.2.2.2.2.2.2).out.keep hb
        exact ⟨z.m.1.1, z.m.1.2, z.m.1.lt, z.r.1.1, z.r.1.2, z.r.1.lt, z⟩
      have hS0 : W7.cell? ⟨kM, 0, none⟩ = some (.int .i64 r2.1.1) ∧ W7.cell? ⟨kM, 1, none⟩ = some (.int .i64 r2.1.2) ∧ kM < W7.heap.size ∧ W7.cell? ⟨kR, 0, none⟩ = some (.int .i64 r2.1.1) ∧ W7.cell? ⟨kR, 1, none⟩ = some (.int .i64 r2.1.2) ∧ kR < W7.heap.size ∧ Hid (Z4 w W7 N kM kR P Q r2.1 r2.1) := ⟨H7.out.m.1.1, H7.out.m.1.2, H7.out.m.1.lt, H7.out.r.1.1, H7.out.r.1.2, H7.out.r.1.lt, H7⟩
      refine wp_region_held_drew (S := fun w' => w'.cell? ⟨kM, 0, none⟩ = some (.int .i64 r2.1.1) ∧ w'.cell? ⟨kM, 1, none⟩ = some (.int .i64 r2.1.2) ∧ kM < w'.heap.size ∧ w'.cell? ⟨kR, 0, none⟩ = some (.int .i64 r2.1.1) ∧ w'.cell? ⟨kR, 1, none⟩ = some (.int .i64 r2.1.2) ∧ kR < w'.heap.size ∧ Hid (Z4 w w' N kM kR P Q r2.1 r2.1)) (by kernel_rfl) (HCL.out _ _ hS0 ((Below.refl _ _).drew)) (fun hHeld => ?_)
      refine wpAnyH_take (i := 0) (oi := ({ dst := some 58, op := Op.load 25 (Operand.tmp 7), type := 25, pos := "law.go:45", after := #[], guard := none } : Oper)) (v := ?_) rfl (by kernel_rfl) (by kernel_rfl) (by kernel_rfl) (fun _ _ _ h => h) (Or.inl ⟨by rfl, ?_⟩) (by assumption) ?_
      rotate_left
      · (intro wz hSw; (try dsimp only at hSw); go_simp; try with_reducible rfl)
      simp only [Act.put, List.setIfInBounds_toArray, List.set_cons_zero, List.set_cons_succ]
      refine wpAnyH_take (i := 2) (oi := ({ dst := some 60, op := Op.load 23 (Operand.tmp 9), type := 23, pos := "law.go:45", after := #[], guard := none } : Oper)) (v := ?_) rfl (by kernel_rfl) (by kernel_rfl) (by kernel_rfl) (fun _ _ _ h => h) (Or.inl ⟨by rfl, ?_⟩) (by assumption) ?_
      rotate_left
      · (intro wz hSw; (try dsimp only at hSw); go_simp; try with_reducible rfl)
      simp only [Act.put, List.setIfInBounds_toArray, List.set_cons_zero, List.set_cons_succ]
      refine wpAnyH_ready (rs := [1]) (by kernel_rfl) (by simp) ?_
      refine AllReadyH.cons (o := ({ dst := some 59, op := Op.call { callee := Callee.value (Operand.func 15), args := #[Operand.tmp 58], argTypes := #[25] }, type := 23, pos := "law.go:45", after := #[{ on := 0, ground := Ground.data }], guard := none } : Oper)) rfl (fun K hK => ?_) AllReadyH.nil
      go_simp
      go_at_call 15
      refine (lift (bel2 (from_any _ _ _)) (by assumption) HCL.out).mono ?_
      rintro e v1 ⟨rfl, g1⟩
      refine hK.out _ _ g1 (fun hHeld => ?_)
      clear hK K
      refine wpAnyH_take (i := 3) (oi := ({ dst := some 61, op := Op.binOp BinOp.neq 23 (Operand.tmp 59) (Operand.tmp 60) 23, type := 4, pos := "law.go:45", after := #[{ on := 1, ground := Ground.data }, { on := 2, ground := Ground.data }], guard := none } : Oper)) (v := ?_) rfl (by kernel_rfl) (by kernel_rfl) (by kernel_rfl) (fun _ _ _ h => h) (Or.inl ⟨by rfl, ?_⟩) (by assumption) ?_
      rotate_left
      · (intro wz hSw; (try dsimp only at hSw); go_simp; try with_reducible rfl)
      simp only [Act.put, List.setIfInBounds_toArray, List.set_cons_zero, List.set_cons_succ]
      refine wpAnyH_take (i := 4) (oi := ({ dst := some 62, op := Op.move (Operand.tmp 61), type := 4, pos := "law.go:45", after := #[{ on := 3, ground := Ground.data }, { on := 1, ground := Ground.chain }], guard := none } : Oper)) (v := ?_) rfl (by kernel_rfl) (by kernel_rfl) (by kernel_rfl) (fun _ _ _ h => h) (Or.inl ⟨by rfl, ?_⟩) (by assumption) ?_
      rotate_left
      · (intro wz hSw; (try dsimp only at hSw); go_simp; try with_reducible rfl)
      simp only [Act.put, List.setIfInBounds_toArray, List.set_cons_zero, List.set_cons_succ]
      refine wpAnyH_take (i := 5) (oi := ({ dst := some 63, op := Op.move (Operand.tmp 8), type := 4, pos := "law.go:45", after := #[{ on := 4, ground := Ground.guard }], guard := some (4, false) } : Oper)) (v := ?_) rfl (by kernel_rfl) (by kernel_rfl) (by kernel_rfl) (fun _ _ _ h => h) (Or.inl ⟨by rfl, ?_⟩) (by assumption) ?_
      rotate_left
      · (intro wz hSw; (try dsimp only at hSw); go_simp; try with_reducible rfl)
      simp only [Act.put, List.setIfInBounds_toArray, List.set_cons_zero, List.set_cons_succ]
      refine wpAnyH_take (i := 6) (oi := ({ dst := some 64, op := Op.move (Operand.tmp 10), type := 4, pos := "law.go:45", after := #[{ on := 4, ground := Ground.guard }], guard := some (4, false) } : Oper)) (v := ?_) rfl (by kernel_rfl) (by kernel_rfl) (by kernel_rfl) (fun _ _ _ h => h) (Or.inl ⟨by rfl, ?_⟩) (by assumption) ?_
      rotate_left
      · (intro wz hSw; (try dsimp only at hSw); go_simp; try with_reducible rfl)
      simp only [Act.put, List.setIfInBounds_toArray, List.set_cons_zero, List.set_cons_succ]
      refine wpAnyH_take (i := 7) (oi := ({ dst := some 65, op := Op.binOp BinOp.neq 4 (Operand.tmp 63) (Operand.tmp 64) 4, type := 4, pos := "law.go:45", after := #[{ on := 5, ground := Ground.data }, { on := 6, ground := Ground.data }, { on := 4, ground := Ground.guard }], guard := some (4, false) } : Oper)) (v := ?_) rfl (by kernel_rfl) (by kernel_rfl) (by kernel_rfl) (fun _ _ _ h => h) (Or.inl ⟨by rfl, ?_⟩) (by assumption) ?_
      rotate_left
      · (intro wz hSw; (try dsimp only at hSw); go_simp; try with_reducible rfl)
      simp only [Act.put, List.setIfInBounds_toArray, List.set_cons_zero, List.set_cons_succ]
      refine wpAnyH_take (i := 8) (oi := ({ dst := some 66, op := Op.pick (Operand.tmp 62) (Operand.const (Value.bool true)) (Operand.tmp 65), type := 4, pos := "law.go:45", after := #[{ on := 4, ground := Ground.data }, { on := 7, ground := Ground.data }], guard := none } : Oper)) (v := ?_) rfl (by kernel_rfl) (by kernel_rfl) (by kernel_rfl) (fun _ _ _ h => h) (Or.inl ⟨by rfl, ?_⟩) (by assumption) ?_
      rotate_left
      · (intro wz hSw; (try dsimp only at hSw); go_simp; try with_reducible rfl)
      simp only [Act.put, List.setIfInBounds_toArray, List.set_cons_zero, List.set_cons_succ]
      refine wpAnyH_done (by kernel_rfl) ?_ _
      have H8 : Hid (Z4 w v1 N kM kR P Q r2.1 r2.1) := (g1.2.2.2.2.2.2)
      clear hS0 HCL hHeld H7 g1
      go_wp2_with fail
      have H9 : Hid (∃ x : Int × Int, Z4 w v1 N kM kR P Q x x) := ⟨_, H8.out⟩
      clear H8
      go_loopw [8, 10, 11] (fun v8 v10 ix wr => (∃ b : Bool, v8 = .bool b ∧ v10 = .bool b) ∧ (ix = .int .i64 0 ∨ ix = .int .i64 1 ∨ ix = .int .i64 2) ∧ Hid (∃ x : Int × Int, Z4 w wr N kM kR P Q x x)) (fun _ _ i _ => 2 - (intOf i).toNat)
      case atStart => exact ⟨⟨_, rfl, rfl⟩, Or.inl rfl, H9⟩
      case round =>
        clear H9
        obtain ⟨⟨b0, rfl, rfl⟩, hix, HA⟩ := hrel
        obtain ⟨xx, HA⟩ := HA.out
        have HA := hide HA
        have c5t := c5 true
        have c5f := c5 false
        have c6t := c6 true
        have c6f := c6 false
        clear c5 c6
        generalize rB true = rT at *
        generalize rB false = rF at *
        rcases hix with rfl | rfl | rfl
        · have f0 := HA.out.p.1
          have f1 := HA.out.p.2
          go_upto_region 14 with (first | (go_at_call 10; refine (bel2 (to_any _ _ _)).mono ?_; rintro e wK ⟨rfl, hK⟩) | (go_at_call 31; refine (c5f _).mono ?_; rintro e wL ⟨rfl, hL⟩; have K := (HA.out.keep hK).keep hL; have r0 := K.m.1.1; have r1_ := K.m.1.2; have r2_ := K.m.2.1; have r3 := K.m.2.2))
          go_name_world WA hWA
          have HB : Hid (Z4 w WA N kM kR P Q rF.1 xx) := by
            rw [← hWA]
            exact K.setM o1 o2 rF.1
          clear hWA hK hL K HA f0 f1 r0 r1_ r2_ r3 c5t c5f
          have f0 := HB.out.p.1
          have f1 := HB.out.p.2
          go_upto_region 15 with (go_at_call 32; refine (c6f _).mono ?_; rintro e wK ⟨rfl, hK⟩; have K := HB.out.keep hK; have r0 := K.r.1.1; have r1_ := K.r.1.2; have r2_ := K.r.2.1; have r3 := K.r.2.2)
          go_name_world WB hWB
          have HC : Hid (Z4 w WB N kM kR P Q rF.1 rF.1) := by
            rw [← hWB]
            exact K.setR o1 o2 rF.1
          clear hWB hK K HB f0 f1 r0 r1_ r2_ r3 c6t c6f
          have HCL : Hid (∀ a b : World, (a.cell? ⟨kM, 0, none⟩ = some (.int .i64 rF.1.1) ∧ a.cell? ⟨kM, 1, none⟩ = some (.int .i64 rF.1.2) ∧ kM < a.heap.size ∧ a.cell? ⟨kR, 0, none⟩ = some (.int .i64 rF.1.1) ∧ a.cell? ⟨kR, 1, none⟩ = some (.int .i64 rF.1.2) ∧ kR < a.heap.size ∧ Hid (Z4 w a N kM kR P Q rF.1 rF.1)) → Below a.heap.size a b → (b.cell? ⟨kM, 0, none⟩ = some (.int .i64 rF.1.1) ∧ b.cell? ⟨kM, 1, none⟩ = some (.int .i64 rF.1.2) ∧ kM < b.heap.size ∧ b.cell? ⟨kR, 0, none⟩ = some (.int .i64 rF.1.1) ∧ b.cell? ⟨kR, 1, none⟩ = some (.int .i64 rF.1.2) ∧ kR < b.heap.size ∧ Hid (Z4 w b N kM kR P Q rF.1 rF.1))) := fun a b h hb => by
            have z := (h.2.2.2.2.2.2).out.keep hb
            exact ⟨z.m.1.1, z.m.1.2, z.m.1.lt, z.r.1.1, z.r.1.2, z.r.1.lt, z⟩
          have hS0 : WB.cell? ⟨kM, 0, none⟩ = some (.int .i64 rF.1.1) ∧ WB.cell? ⟨kM, 1, none⟩ = some (.int .i64 rF.1.2) ∧ kM < WB.heap.size ∧ WB.cell? ⟨kR, 0, none⟩ = some (.int .i64 rF.1.1) ∧ WB.cell? ⟨kR, 1, none⟩ = some (.int .i64 rF.1.2) ∧ kR < WB.heap.size ∧ Hid (Z4 w WB N kM kR P Q rF.1 rF.1) := ⟨HC.out.m.1.1, HC.out.m.1.2, HC.out.m.1.lt, HC.out.r.1.1, HC.out.r.1.2, HC.out.r.1.lt, HC⟩
          refine wp_region_held_drew (S := fun w' => w'.cell? ⟨kM, 0, none⟩ = some (.int .i64 rF.1.1) ∧ w'.cell? ⟨kM, 1, none⟩ = some (.int .i64 rF.1.2) ∧ kM < w'.heap.size ∧ w'.cell? ⟨kR, 0, none⟩ = some (.int .i64 rF.1.1) ∧ w'.cell? ⟨kR, 1, none⟩ = some (.int .i64 rF.1.2) ∧ kR < w'.heap.size ∧ Hid (Z4 w w' N kM kR P Q rF.1 rF.1)) (by kernel_rfl) (HCL.out _ _ hS0 ((Below.refl _ _).drew)) (fun hHeld => ?_)
          refine wpAnyH_take (i := 0) (oi := ({ dst := some 86, op := Op.load 25 (Operand.tmp 7), type := 25, pos := "law.go:51", after := #[], guard := none } : Oper)) (v := ?_) rfl (by kernel_rfl) (by kernel_rfl) (by kernel_rfl) (fun _ _ _ h => h) (Or.inl ⟨by rfl, ?_⟩) (by assumption) ?_
          rotate_left
          · (intro wz hSw; (try dsimp only at hSw); go_simp; try with_reducible rfl)
          simp only [Act.put, List.setIfInBounds_toArray, List.set_cons_zero, List.set_cons_succ]
          refine wpAnyH_take (i := 2) (oi := ({ dst := some 88, op := Op.load 23 (Operand.tmp 9), type := 23, pos := "law.go:51", after := #[], guard := none } : Oper)) (v := ?_) rfl (by kernel_rfl) (by kernel_rfl) (by kernel_rfl) (fun _ _ _ h => h) (Or.inl ⟨by rfl, ?_⟩) (by assumption) ?_
          rotate_left
          · (intro wz hSw; (try dsimp only at hSw); go_simp; try with_reducible rfl)
          simp only [Act.put, List.setIfInBounds_toArray, List.set_cons_zero, List.set_cons_succ]
          refine wpAnyH_ready (rs := [1]) (by kernel_rfl) (by simp) ?_
          refine AllReadyH.cons (o := ({ dst := some 87, op := Op.call { callee := Callee.value (Operand.func 15), args := #[Operand.tmp 86], argTypes := #[25] }, type := 23, pos := "law.go:51", after := #[{ on := 0, ground := Ground.data }], guard := none } : Oper)) rfl (fun K hK => ?_) AllReadyH.nil
          go_simp
          go_at_call 15
          refine (lift (bel2 (from_any _ _ _)) (by assumption) HCL.out).mono ?_
          rintro e v1 ⟨rfl, g1⟩
          refine hK.out _ _ g1 (fun hHeld => ?_)
          clear hK K
          refine wpAnyH_take (i := 3) (oi := ({ dst := some 89, op := Op.binOp BinOp.neq 23 (Operand.tmp 87) (Operand.tmp 88) 23, type := 4, pos := "law.go:51", after := #[{ on := 1, ground := Ground.data }, { on := 2, ground := Ground.data }], guard := none } : Oper)) (v := ?_) rfl (by kernel_rfl) (by kernel_rfl) (by kernel_rfl) (fun _ _ _ h => h) (Or.inl ⟨by rfl, ?_⟩) (by assumption) ?_
          rotate_left
          · (intro wz hSw; (try dsimp only at hSw); go_simp; try with_reducible rfl)
          simp only [Act.put, List.setIfInBounds_toArray, List.set_cons_zero, List.set_cons_succ]
          refine wpAnyH_take (i := 4) (oi := ({ dst := some 90, op := Op.move (Operand.tmp 89), type := 4, pos := "law.go:51", after := #[{ on := 3, ground := Ground.data }, { on := 1, ground := Ground.chain }], guard := none } : Oper)) (v := ?_) rfl (by kernel_rfl) (by kernel_rfl) (by kernel_rfl) (fun _ _ _ h => h) (Or.inl ⟨by rfl, ?_⟩) (by assumption) ?_
          rotate_left
          · (intro wz hSw; (try dsimp only at hSw); go_simp; try with_reducible rfl)
          simp only [Act.put, List.setIfInBounds_toArray, List.set_cons_zero, List.set_cons_succ]
          refine wpAnyH_take (i := 5) (oi := ({ dst := some 91, op := Op.move (Operand.tmp 8), type := 4, pos := "law.go:51", after := #[{ on := 4, ground := Ground.guard }], guard := some (4, false) } : Oper)) (v := ?_) rfl (by kernel_rfl) (by kernel_rfl) (by kernel_rfl) (fun _ _ _ h => h) (Or.inl ⟨by rfl, ?_⟩) (by assumption) ?_
          rotate_left
          · (intro wz hSw; (try dsimp only at hSw); go_simp; try with_reducible rfl)
          simp only [Act.put, List.setIfInBounds_toArray, List.set_cons_zero, List.set_cons_succ]
          refine wpAnyH_take (i := 6) (oi := ({ dst := some 92, op := Op.move (Operand.tmp 10), type := 4, pos := "law.go:51", after := #[{ on := 4, ground := Ground.guard }], guard := some (4, false) } : Oper)) (v := ?_) rfl (by kernel_rfl) (by kernel_rfl) (by kernel_rfl) (fun _ _ _ h => h) (Or.inl ⟨by rfl, ?_⟩) (by assumption) ?_
          rotate_left
          · (intro wz hSw; (try dsimp only at hSw); go_simp; try with_reducible rfl)
          simp only [Act.put, List.setIfInBounds_toArray, List.set_cons_zero, List.set_cons_succ]
          refine wpAnyH_take (i := 7) (oi := ({ dst := some 93, op := Op.binOp BinOp.neq 4 (Operand.tmp 91) (Operand.tmp 92) 4, type := 4, pos := "law.go:51", after := #[{ on := 5, ground := Ground.data }, { on := 6, ground := Ground.data }, { on := 4, ground := Ground.guard }], guard := some (4, false) } : Oper)) (v := ?_) rfl (by kernel_rfl) (by kernel_rfl) (by kernel_rfl) (fun _ _ _ h => h) (Or.inl ⟨by rfl, ?_⟩) (by assumption) ?_
          rotate_left
          · (intro wz hSw; (try dsimp only at hSw); go_simp; try with_reducible rfl)
          simp only [Act.put, List.setIfInBounds_toArray, List.set_cons_zero, List.set_cons_succ]
          refine wpAnyH_take (i := 8) (oi := ({ dst := some 94, op := Op.pick (Operand.tmp 90) (Operand.const (Value.bool true)) (Operand.tmp 93), type := 4, pos := "law.go:51", after := #[{ on := 4, ground := Ground.data }, { on := 7, ground := Ground.data }], guard := none } : Oper)) (v := ?_) rfl (by kernel_rfl) (by kernel_rfl) (by kernel_rfl) (fun _ _ _ h => h) (Or.inl ⟨by rfl, ?_⟩) (by assumption) ?_
          rotate_left
          · (intro wz hSw; (try dsimp only at hSw); go_simp; try with_reducible rfl)
          simp only [Act.put, List.setIfInBounds_toArray, List.set_cons_zero, List.set_cons_succ]
          refine wpAnyH_done (by kernel_rfl) ?_ _
          have HE : Hid (Z4 w v1 N kM kR P Q rF.1 rF.1) := (g1.2.2.2.2.2.2)
          clear hS0 HCL hHeld HC g1
          go_wp2_with fail
          go_round
          case rel => exact ⟨⟨_, rfl, rfl⟩, Or.inr (Or.inl rfl), ⟨_, HE.out⟩⟩
          case measure => simp [intOf]
        · have f0 := HA.out.p.1
          have f1 := HA.out.p.2
          go_upto_region 14 with (first | (go_at_call 10; refine (bel2 (to_any _ _ _)).mono ?_; rintro e wK ⟨rfl, hK⟩) | (go_at_call 31; refine (c5t _).mono ?_; rintro e wL ⟨rfl, hL⟩; have K := (HA.out.keep hK).keep hL; have r0 := K.m.1.1; have r1_ := K.m.1.2; have r2_ := K.m.2.1; have r3 := K.m.2.2))
          go_name_world WA hWA
          have HB : Hid (Z4 w WA N kM kR P Q rT.1 xx) := by
            rw [← hWA]
            exact K.setM o1 o2 rT.1
          clear hWA hK hL K HA f0 f1 r0 r1_ r2_ r3 c5t c5f
          have f0 := HB.out.p.1
          have f1 := HB.out.p.2
          go_upto_region 15 with (go_at_call 32; refine (c6t _).mono ?_; rintro e wK ⟨rfl, hK⟩; have K := HB.out.keep hK; have r0 := K.r.1.1; have r1_ := K.r.1.2; have r2_ := K.r.2.1; have r3 := K.r.2.2)
          go_name_world WB hWB
          have HC : Hid (Z4 w WB N kM kR P Q rT.1 rT.1) := by
            rw [← hWB]
            exact K.setR o1 o2 rT.1
          clear hWB hK K HB f0 f1 r0 r1_ r2_ r3 c6t c6f
          have HCL : Hid (∀ a b : World, (a.cell? ⟨kM, 0, none⟩ = some (.int .i64 rT.1.1) ∧ a.cell? ⟨kM, 1, none⟩ = some (.int .i64 rT.1.2) ∧ kM < a.heap.size ∧ a.cell? ⟨kR, 0, none⟩ = some (.int .i64 rT.1.1) ∧ a.cell? ⟨kR, 1, none⟩ = some (.int .i64 rT.1.2) ∧ kR < a.heap.size ∧ Hid (Z4 w a N kM kR P Q rT.1 rT.1)) → Below a.heap.size a b → (b.cell? ⟨kM, 0, none⟩ = some (.int .i64 rT.1.1) ∧ b.cell? ⟨kM, 1, none⟩ = some (.int .i64 rT.1.2) ∧ kM < b.heap.size ∧ b.cell? ⟨kR, 0, none⟩ = some (.int .i64 rT.1.1) ∧ b.cell? ⟨kR, 1, none⟩ = some (.int .i64 rT.1.2) ∧ kR < b.heap.size ∧ Hid (Z4 w b N kM kR P Q rT.1 rT.1))) := fun a b h hb => by
            have z := (h.2.2.2.2.2.2).out.keep hb
            exact ⟨z.m.1.1, z.m.1.2, z.m.1.lt, z.r.1.1, z.r.1.2, z.r.1.lt, z⟩
          have hS0 : WB.cell? ⟨kM, 0, none⟩ = some (.int .i64 rT.1.1) ∧ WB.cell? ⟨kM, 1, none⟩ = some (.int .i64 rT.1.2) ∧ kM < WB.heap.size ∧ WB.cell? ⟨kR, 0, none⟩ = some (.int .i64 rT.1.1) ∧ WB.cell? ⟨kR, 1, none⟩ = some (.int .i64 rT.1.2) ∧ kR < WB.heap.size ∧ Hid (Z4 w WB N kM kR P Q rT.1 rT.1) := ⟨HC.out.m.1.1, HC.out.m.1.2, HC.out.m.1.lt, HC.out.r.1.1, HC.out.r.1.2, HC.out.r.1.lt, HC⟩
          refine wp_region_held_drew (S := fun w' => w'.cell? ⟨kM, 0, none⟩ = some (.int .i64 rT.1.1) ∧ w'.cell? ⟨kM, 1, none⟩ = some (.int .i64 rT.1.2) ∧ kM < w'.heap.size ∧ w'.cell? ⟨kR, 0, none⟩ = some (.int .i64 rT.1.1) ∧ w'.cell? ⟨kR, 1, none⟩ = some (.int .i64 rT.1.2) ∧ kR < w'.heap.size ∧ Hid (Z4 w w' N kM kR P Q rT.1 rT.1)) (by kernel_rfl) (HCL.out _ _ hS0 ((Below.refl _ _).drew)) (fun hHeld => ?_)
          refine wpAnyH_take (i := 0) (oi := ({ dst := some 86, op := Op.load 25 (Operand.tmp 7), type := 25, pos := "law.go:51", after := #[], guard := none } : Oper)) (v := ?_) rfl (by kernel_rfl) (by kernel_rfl) (by kernel_rfl) (fun _ _ _ h => h) (Or.inl ⟨by rfl, ?_⟩) (by assumption) ?_
          rotate_left
          · (intro wz hSw; (try dsimp only at hSw); go_simp; try with_reducible rfl)
          simp only [Act.put, List.setIfInBounds_toArray, List.set_cons_zero, List.set_cons_succ]
          refine wpAnyH_take (i := 2) (oi := ({ dst := some 88, op := Op.load 23 (Operand.tmp 9), type := 23, pos := "law.go:51", after := #[], guard := none } : Oper)) (v := ?_) rfl (by kernel_rfl) (by kernel_rfl) (by kernel_rfl) (fun _ _ _ h => h) (Or.inl ⟨by rfl, ?_⟩) (by assumption) ?_
          rotate_left
          · (intro wz hSw; (try dsimp only at hSw); go_simp; try with_reducible rfl)
          simp only [Act.put, List.setIfInBounds_toArray, List.set_cons_zero, List.set_cons_succ]
          refine wpAnyH_ready (rs := [1]) (by kernel_rfl) (by simp) ?_
          refine AllReadyH.cons (o := ({ dst := some 87, op := Op.call { callee := Callee.value (Operand.func 15), args := #[Operand.tmp 86], argTypes := #[25] }, type := 23, pos := "law.go:51", after := #[{ on := 0, ground := Ground.data }], guard := none } : Oper)) rfl (fun K hK => ?_) AllReadyH.nil
          go_simp
          go_at_call 15
          refine (lift (bel2 (from_any _ _ _)) (by assumption) HCL.out).mono ?_
          rintro e v1 ⟨rfl, g1⟩
          refine hK.out _ _ g1 (fun hHeld => ?_)
          clear hK K
          refine wpAnyH_take (i := 3) (oi := ({ dst := some 89, op := Op.binOp BinOp.neq 23 (Operand.tmp 87) (Operand.tmp 88) 23, type := 4, pos := "law.go:51", after := #[{ on := 1, ground := Ground.data }, { on := 2, ground := Ground.data }], guard := none } : Oper)) (v := ?_) rfl (by kernel_rfl) (by kernel_rfl) (by kernel_rfl) (fun _ _ _ h => h) (Or.inl ⟨by rfl, ?_⟩) (by assumption) ?_
          rotate_left
          · (intro wz hSw; (try dsimp only at hSw); go_simp; try with_reducible rfl)
          simp only [Act.put, List.setIfInBounds_toArray, List.set_cons_zero, List.set_cons_succ]
          refine wpAnyH_take (i := 4) (oi := ({ dst := some 90, op := Op.move (Operand.tmp 89), type := 4, pos := "law.go:51", after := #[{ on := 3, ground := Ground.data }, { on := 1, ground := Ground.chain }], guard := none } : Oper)) (v := ?_) rfl (by kernel_rfl) (by kernel_rfl) (by kernel_rfl) (fun _ _ _ h => h) (Or.inl ⟨by rfl, ?_⟩) (by assumption) ?_
          rotate_left
          · (intro wz hSw; (try dsimp only at hSw); go_simp; try with_reducible rfl)
          simp only [Act.put, List.setIfInBounds_toArray, List.set_cons_zero, List.set_cons_succ]
          refine wpAnyH_take (i := 5) (oi := ({ dst := some 91, op := Op.move (Operand.tmp 8), type := 4, pos := "law.go:51", after := #[{ on := 4, ground := Ground.guard }], guard := some (4, false) } : Oper)) (v := ?_) rfl (by kernel_rfl) (by kernel_rfl) (by kernel_rfl) (fun _ _ _ h => h) (Or.inl ⟨by rfl, ?_⟩) (by assumption) ?_
          rotate_left
          · (intro wz hSw; (try dsimp only at hSw); go_simp; try with_reducible rfl)
          simp only [Act.put, List.setIfInBounds_toArray, List.set_cons_zero, List.set_cons_succ]
          refine wpAnyH_take (i := 6) (oi := ({ dst := some 92, op := Op.move (Operand.tmp 10), type := 4, pos := "law.go:51", after := #[{ on := 4, ground := Ground.guard }], guard := some (4, false) } : Oper)) (v := ?_) rfl (by kernel_rfl) (by kernel_rfl) (by kernel_rfl) (fun _ _ _ h => h) (Or.inl ⟨by rfl, ?_⟩) (by assumption) ?_
          rotate_left
          · (intro wz hSw; (try dsimp only at hSw); go_simp; try with_reducible rfl)
          simp only [Act.put, List.setIfInBounds_toArray, List.set_cons_zero, List.set_cons_succ]
          refine wpAnyH_take (i := 7) (oi := ({ dst := some 93, op := Op.binOp BinOp.neq 4 (Operand.tmp 91) (Operand.tmp 92) 4, type := 4, pos := "law.go:51", after := #[{ on := 5, ground := Ground.data }, { on := 6, ground := Ground.data }, { on := 4, ground := Ground.guard }], guard := some (4, false) } : Oper)) (v := ?_) rfl (by kernel_rfl) (by kernel_rfl) (by kernel_rfl) (fun _ _ _ h => h) (Or.inl ⟨by rfl, ?_⟩) (by assumption) ?_
          rotate_left
          · (intro wz hSw; (try dsimp only at hSw); go_simp; try with_reducible rfl)
          simp only [Act.put, List.setIfInBounds_toArray, List.set_cons_zero, List.set_cons_succ]
          refine wpAnyH_take (i := 8) (oi := ({ dst := some 94, op := Op.pick (Operand.tmp 90) (Operand.const (Value.bool true)) (Operand.tmp 93), type := 4, pos := "law.go:51", after := #[{ on := 4, ground := Ground.data }, { on := 7, ground := Ground.data }], guard := none } : Oper)) (v := ?_) rfl (by kernel_rfl) (by kernel_rfl) (by kernel_rfl) (fun _ _ _ h => h) (Or.inl ⟨by rfl, ?_⟩) (by assumption) ?_
          rotate_left
          · (intro wz hSw; (try dsimp only at hSw); go_simp; try with_reducible rfl)
          simp only [Act.put, List.setIfInBounds_toArray, List.set_cons_zero, List.set_cons_succ]
          refine wpAnyH_done (by kernel_rfl) ?_ _
          have HE : Hid (Z4 w v1 N kM kR P Q rT.1 rT.1) := (g1.2.2.2.2.2.2)
          clear hS0 HCL hHeld HC g1
          go_wp2_with fail
          go_round
          case rel => exact ⟨⟨_, rfl, rfl⟩, Or.inr (Or.inr rfl), ⟨_, HE.out⟩⟩
          case measure => simp [intOf]
        · go_wp2_with fail
          go_ret
          exact ⟨rfl, by rw [← HN.out]; exact HA.out.bel⟩
end Go.Proofs.Ytpegiljajlljkaa
