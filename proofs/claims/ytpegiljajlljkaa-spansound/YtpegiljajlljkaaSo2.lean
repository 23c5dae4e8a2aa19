import Derived.Test.YtpegiljajlljkaaSo1
import Derived.Lib.ItoaWalk
import Derived.Deep.CutBlock
namespace Go.Proofs.Ytpegiljajlljkaa
open Go.RowKit
set_option maxRecDepth 100000 in
set_option maxHeartbeats 16000000 in
theorem ssound_walk (op x y al ah bl bh : Int) (w : World) (hx : i64 x) (hy : i64 y) (h1 : i64 al) (h2 : i64 ah) (h3 : i64 bl) (h4 : i64 bh) : Calls Try.prog 5 #[.int .i64 op, .agg #[.int .i64 x, .int .i64 y], .agg #[.int .i64 al, .int .i64 ah, .int .i64 bl, .int .i64 bh]] w fun e w' => e = .returned (.bool true) ∧ Below w.heap.size w w' := by
  have sa : Sp (min (min al ah) x, max (max al ah) x) := by unfold i64 at *; unfold Sp; dsimp only; omega
  have sb : Sp (min (min bl bh) y, max (max bl bh) y) := by unfold i64 at *; unfold Sp; dsimp only; omega
  have ia : In (min (min al ah) x, max (max al ah) x) x := by unfold In; dsimp only; omega
  have ib : In (min (min bl bh) y, max (max bl bh) y) y := by unfold In; dsimp only; omega
  have cA := fun w => about_bel al ah x w
  have cB := fun w => about_bel bl bh y w
  have x0 : ∀ nq, ((((w.alloc (.cells #[.int .i64 x, .int .i64 y] 51)).alloc (.cells #[.int .i64 al, .int .i64 ah, .int .i64 bl, .int .i64 bh] 52)).drewN nq).cell? ⟨w.heap.size + 1, 0, none⟩ = some (.int .i64 al) ∧ (((w.alloc (.cells #[.int .i64 x, .int .i64 y] 51)).alloc (.cells #[.int .i64 al, .int .i64 ah, .int .i64 bl, .int .i64 bh] 52)).drewN nq).cell? ⟨w.heap.size + 1, 1, none⟩ = some (.int .i64 ah) ∧ (((w.alloc (.cells #[.int .i64 x, .int .i64 y] 51)).alloc (.cells #[.int .i64 al, .int .i64 ah, .int .i64 bl, .int .i64 bh] 52)).drewN nq).cell? ⟨w.heap.size + 1, 2, none⟩ = some (.int .i64 bl) ∧ (((w.alloc (.cells #[.int .i64 x, .int .i64 y] 51)).alloc (.cells #[.int .i64 al, .int .i64 ah, .int .i64 bl, .int .i64 bh] 52)).drewN nq).cell? ⟨w.heap.size + 1, 3, none⟩ = some (.int .i64 bh) ∧ w.heap.size + 1 < (((w.alloc (.cells #[.int .i64 x, .int .i64 y] 51)).alloc (.cells #[.int .i64 al, .int .i64 ah, .int .i64 bl, .int .i64 bh] 52)).drewN nq).heap.size ∧ Below w.heap.size w (((w.alloc (.cells #[.int .i64 x, .int .i64 y] 51)).alloc (.cells #[.int .i64 al, .int .i64 ah, .int .i64 bl, .int .i64 bh] 52)).drewN nq)) := fun nq => ⟨by simp, by simp, by simp, by simp, by simp, below_drewN (((Below.refl w.heap.size w).alloc (Nat.le_refl _) _).alloc (by simp) _) nq⟩
  generalize hEA : (min (min al ah) x, max (max al ah) x) = A at *
  generalize hEB : (min (min bl bh) y, max (max bl bh) y) = B at *
  obtain ⟨eA1, eA2⟩ : min (min al ah) x = A.1 ∧ max (max al ah) x = A.2 := by rw [← hEA]; exact ⟨rfl, rfl⟩
  obtain ⟨eB1, eB2⟩ : min (min bl bh) y = B.1 ∧ max (max bl bh) y = B.2 := by rw [← hEB]; exact ⟨rfl, rfl⟩
  rw [eA1, eA2] at cA
  rw [eB1, eB2] at cB
  clear hEA hEB eA1 eA2 eB1 eB2 h1 h2 h3 h4
  go_enter Try.func5, Try.ntmps5
  go_wp2
  go_quiet (fail)
  go_upto_region 2 with fail
  have x1 := x0 nq
  clear x0
  go_name_world W hW
  rw [hW] at x1
  clear hW
  obtain ⟨N, hN⟩ : ∃ N, N = w.heap.size := ⟨_, rfl⟩
  rw [← hN] at x1 ⊢
  have HN : Hid (N = w.heap.size) := hN
  clear hN
  have HCL : Hid (∀ a b : World, (a.cell? ⟨N + 1, 0, none⟩ = some (.int .i64 al) ∧ a.cell? ⟨N + 1, 1, none⟩ = some (.int .i64 ah) ∧ a.cell? ⟨N + 1, 2, none⟩ = some (.int .i64 bl) ∧ a.cell? ⟨N + 1, 3, none⟩ = some (.int .i64 bh) ∧ N + 1 < a.heap.size ∧ Hid (Below N w a)) → Below a.heap.size a b → (b.cell? ⟨N + 1, 0, none⟩ = some (.int .i64 al) ∧ b.cell? ⟨N + 1, 1, none⟩ = some (.int .i64 ah) ∧ b.cell? ⟨N + 1, 2, none⟩ = some (.int .i64 bl) ∧ b.cell? ⟨N + 1, 3, none⟩ = some (.int .i64 bh) ∧ N + 1 < b.heap.size ∧ Hid (Below N w b))) := fun a b h hb =>
    ⟨(hb.cell (p := ⟨N + 1, 0, none⟩) h.2.2.2.2.1).trans h.1, (hb.cell (p := ⟨N + 1, 1, none⟩) h.2.2.2.2.1).trans h.2.1, (hb.cell (p := ⟨N + 1, 2, none⟩) h.2.2.2.2.1).trans h.2.2.1, (hb.cell (p := ⟨N + 1, 3, none⟩) h.2.2.2.2.1).trans h.2.2.2.1, Nat.lt_of_lt_of_le h.2.2.2.2.1 hb.size, h.2.2.2.2.2.out.trans (hb.mono (by omega))⟩
  have HST : Hid (∀ (a : World) (q : Nat) (v u : Value), N + 1 < q → (a.cell? ⟨N + 1, 0, none⟩ = some (.int .i64 al) ∧ a.cell? ⟨N + 1, 1, none⟩ = some (.int .i64 ah) ∧ a.cell? ⟨N + 1, 2, none⟩ = some (.int .i64 bl) ∧ a.cell? ⟨N + 1, 3, none⟩ = some (.int .i64 bh) ∧ N + 1 < a.heap.size ∧ Hid (Below N w a)) → (((a.setCell ⟨q, 0, none⟩ v).setCell ⟨q, 1, none⟩ u).cell? ⟨N + 1, 0, none⟩ = some (.int .i64 al) ∧ ((a.setCell ⟨q, 0, none⟩ v).setCell ⟨q, 1, none⟩ u).cell? ⟨N + 1, 1, none⟩ = some (.int .i64 ah) ∧ ((a.setCell ⟨q, 0, none⟩ v).setCell ⟨q, 1, none⟩ u).cell? ⟨N + 1, 2, none⟩ = some (.int .i64 bl) ∧ ((a.setCell ⟨q, 0, none⟩ v).setCell ⟨q, 1, none⟩ u).cell? ⟨N + 1, 3, none⟩ = some (.int .i64 bh) ∧ N + 1 < ((a.setCell ⟨q, 0, none⟩ v).setCell ⟨q, 1, none⟩ u).heap.size ∧ Hid (Below N w ((a.setCell ⟨q, 0, none⟩ v).setCell ⟨q, 1, none⟩ u)))) := fun a q v u hq h => by
    have ne : ∀ k j : Nat, (⟨q, j, none⟩ : Addr) ≠ ⟨N + 1, k, none⟩ := fun k j e => by
      have := congrArg Addr.block e
      simp at this
      omega
    have c : ∀ k, ((a.setCell ⟨q, 0, none⟩ v).setCell ⟨q, 1, none⟩ u).cell? ⟨N + 1, k, none⟩ = a.cell? ⟨N + 1, k, none⟩ := fun k => (World.cell?_setCell_other _ _ _ _ (ne k 1)).trans (World.cell?_setCell_other _ _ _ _ (ne k 0))
    exact ⟨(c 0).trans h.1, (c 1).trans h.2.1, (c 2).trans h.2.2.1, (c 3).trans h.2.2.2.1, by simpa using h.2.2.2.2.1, (h.2.2.2.2.2.out.setCell (p := ⟨q, 0, none⟩) (show N ≤ q by omega) v).setCell (p := ⟨q, 1, none⟩) (show N ≤ q by omega) u⟩
  go_cut [9, 10] (fun v9 v10 wx => ∃ p q, v9 = .pointer (some ⟨p, 0, none⟩) ∧ v10 = .pointer (some ⟨q, 0, none⟩) ∧ Hid (Bx wx p A.1 A.2 ∧ Bx wx q B.1 B.2 ∧ Below N w wx))
  case first =>
    refine wp_region_held_drew (S := fun w' => w'.cell? ⟨N + 1, 0, none⟩ = some (.int .i64 al) ∧ w'.cell? ⟨N + 1, 1, none⟩ = some (.int .i64 ah) ∧ w'.cell? ⟨N + 1, 2, none⟩ = some (.int .i64 bl) ∧ w'.cell? ⟨N + 1, 3, none⟩ = some (.int .i64 bh) ∧ N + 1 < w'.heap.size ∧ Hid (Below N w w')) (by kernel_rfl) (HCL.out _ _ x1 ((Below.refl _ _).drew)) (fun hH0 => ?_)
    refine wpAnyH_take (i := 0) (oi := ({ dst := some 25, op := Op.indexAddr 52 (Operand.tmp 5) (Operand.const (Value.int IntKind.i64 0)), type := 0, pos := "law.go:64", after := #[], guard := none } : Oper)) (v := ?_) rfl (by kernel_rfl) (by kernel_rfl) (by kernel_rfl) (fun _ _ _ h => h) (Or.inl ⟨by rfl, ?_⟩) (by assumption) ?_
    rotate_left
    · (intro wz hSw; (try dsimp only at hSw); go_simp; try with_reducible rfl)
    simp only [Act.put, List.setIfInBounds_toArray, List.set_cons_zero, List.set_cons_succ]
    refine wpAnyH_take (i := 1) (oi := ({ dst := some 26, op := Op.load 23 (Operand.tmp 25), type := 23, pos := "law.go:64", after := #[{ on := 0, ground := Ground.data }], guard := none } : Oper)) (v := ?_) rfl (by kernel_rfl) (by kernel_rfl) (by kernel_rfl) (fun _ _ _ h => h) (Or.inl ⟨by rfl, ?_⟩) (by assumption) ?_
    rotate_left
    · (intro wz hSw; (try dsimp only at hSw); go_simp; try with_reducible rfl)
    simp only [Act.put, List.setIfInBounds_toArray, List.set_cons_zero, List.set_cons_succ]
    refine wpAnyH_take (i := 2) (oi := ({ dst := some 27, op := Op.move (Operand.tmp 7), type := 2, pos := "law.go:64", after := #[], guard := none } : Oper)) (v := ?_) rfl (by kernel_rfl) (by kernel_rfl) (by kernel_rfl) (fun _ _ _ h => h) (Or.inl ⟨by rfl, ?_⟩) (by assumption) ?_
    rotate_left
    · (intro wz hSw; (try dsimp only at hSw); go_simp; try with_reducible rfl)
    simp only [Act.put, List.setIfInBounds_toArray, List.set_cons_zero, List.set_cons_succ]
    refine wpAnyH_take (i := 4) (oi := ({ dst := some 29, op := Op.indexAddr 52 (Operand.tmp 5) (Operand.const (Value.int IntKind.i64 1)), type := 0, pos := "law.go:64", after := #[], guard := none } : Oper)) (v := ?_) rfl (by kernel_rfl) (by kernel_rfl) (by kernel_rfl) (fun _ _ _ h => h) (Or.inl ⟨by rfl, ?_⟩) (by assumption) ?_
    rotate_left
    · (intro wz hSw; (try dsimp only at hSw); go_simp; try with_reducible rfl)
    simp only [Act.put, List.setIfInBounds_toArray, List.set_cons_zero, List.set_cons_succ]
    refine wpAnyH_take (i := 5) (oi := ({ dst := some 30, op := Op.load 23 (Operand.tmp 29), type := 23, pos := "law.go:64", after := #[{ on := 4, ground := Ground.data }], guard := none } : Oper)) (v := ?_) rfl (by kernel_rfl) (by kernel_rfl) (by kernel_rfl) (fun _ _ _ h => h) (Or.inl ⟨by rfl, ?_⟩) (by assumption) ?_
    rotate_left
    · (intro wz hSw; (try dsimp only at hSw); go_simp; try with_reducible rfl)
    simp only [Act.put, List.setIfInBounds_toArray, List.set_cons_zero, List.set_cons_succ]
    refine wpAnyH_take (i := 6) (oi := ({ dst := some 31, op := Op.move (Operand.tmp 8), type := 2, pos := "law.go:64", after := #[], guard := none } : Oper)) (v := ?_) rfl (by kernel_rfl) (by kernel_rfl) (by kernel_rfl) (fun _ _ _ h => h) (Or.inl ⟨by rfl, ?_⟩) (by assumption) ?_
    rotate_left
    · (intro wz hSw; (try dsimp only at hSw); go_simp; try with_reducible rfl)
    simp only [Act.put, List.setIfInBounds_toArray, List.set_cons_zero, List.set_cons_succ]
    obtain ⟨w0, hw0⟩ : ∃ w0, w0 = W.drew := ⟨_, rfl⟩
    rw [← hw0] at hH0 ⊢
    clear hw0
    refine wpAnyH_ready (rs := [3, 8, 9]) (by kernel_rfl) (by simp) ?_
    refine AllReadyH.cons (o := ({ dst := some 28, op := Op.call { callee := Callee.value (Operand.func 33), args := #[Operand.tmp 26, Operand.tmp 27], argTypes := #[23, 2] }, type := 25, pos := "law.go:64", after := #[{ on := 1, ground := Ground.data }, { on := 2, ground := Ground.data }], guard := none } : Oper)) rfl (fun K hK => ?_) (AllReadyH.cons (o := ({ dst := some 9, op := Op.alloc 25, type := 0, pos := "law.go:64", after := #[], guard := none } : Oper)) rfl (fun K hK => ?_) (AllReadyH.cons (o := ({ dst := some 10, op := Op.alloc 25, type := 0, pos := "law.go:64", after := #[], guard := none } : Oper)) rfl (fun K hK => ?_) AllReadyH.nil))
    · go_simp
      go_at_call 33
      refine (cA _).mono ?_
      rintro e w1 ⟨rfl, hb1⟩
      refine hK.out _ _ (HCL.out _ _ hH0 hb1) (fun hH1 => ?_)
      clear hK K
      refine wpAnyH_ready (rs := [7, 8, 9]) (by kernel_rfl) (by simp) ?_
      refine AllReadyH.cons (o := ({ dst := some 32, op := Op.call { callee := Callee.value (Operand.func 33), args := #[Operand.tmp 30, Operand.tmp 31], argTypes := #[23, 2] }, type := 25, pos := "law.go:64", after := #[{ on := 5, ground := Ground.data }, { on := 6, ground := Ground.data }, { on := 3, ground := Ground.chain }], guard := none } : Oper)) rfl (fun K hK => ?_) (AllReadyH.cons (o := ({ dst := some 9, op := Op.alloc 25, type := 0, pos := "law.go:64", after := #[], guard := none } : Oper)) rfl (fun K hK => ?_) (AllReadyH.cons (o := ({ dst := some 10, op := Op.alloc 25, type := 0, pos := "law.go:64", after := #[], guard := none } : Oper)) rfl (fun K hK => ?_) AllReadyH.nil))
      · go_simp
        go_at_call 33
        refine (cB _).mono ?_
        rintro e w2 ⟨rfl, hb2⟩
        refine hK.out _ _ (HCL.out _ _ hH1 hb2) (fun hH2 => ?_)
        clear hK K
        refine wpAnyH_ready (rs := [8, 9]) (by kernel_rfl) (by simp) ?_
        refine AllReadyH.cons (o := ({ dst := some 9, op := Op.alloc 25, type := 0, pos := "law.go:64", after := #[], guard := none } : Oper)) rfl (fun K hK => ?_) (AllReadyH.cons (o := ({ dst := some 10, op := Op.alloc 25, type := 0, pos := "law.go:64", after := #[], guard := none } : Oper)) rfl (fun K hK => ?_) AllReadyH.nil)
        · go_simp
          have hb3 : Below w2.heap.size w2 (w2.alloc (.cells #[.int .i64 0, .int .i64 0] 25)) := (Below.refl _ _).alloc (Nat.le_refl _) _
          have P3 := Bz.new w2 0 0 25
          have neP : N + 1 < w2.heap.size := hH2.2.2.2.2.1
          refine hK.out _ _ (HCL.out _ _ hH2 hb3) (fun hH3 => ?_)
          clear hK K
          obtain ⟨w3, hw3⟩ : ∃ w3, w3 = w2.alloc (.cells #[.int .i64 0, .int .i64 0] 25) := ⟨_, rfl⟩
          rw [← hw3] at hH3 P3 ⊢
          clear hw3
          generalize w2.heap.size = kP at *
          refine wpAnyH_ready (rs := [9]) (by kernel_rfl) (by simp) ?_
          refine AllReadyH.cons (o := ({ dst := some 10, op := Op.alloc 25, type := 0, pos := "law.go:64", after := #[], guard := none } : Oper)) rfl (fun K hK => ?_) AllReadyH.nil
          · go_simp
            have hb4 : Below w3.heap.size w3 (w3.alloc (.cells #[.int .i64 0, .int .i64 0] 25)) := (Below.refl _ _).alloc (Nat.le_refl _) _
            have P4 := P3.keep hb4
            have Q4 := Bz.new w3 0 0 25
            have neQ : N + 1 < w3.heap.size := hH3.2.2.2.2.1
            have nePQ : kP ≠ w3.heap.size := Nat.ne_of_lt P3.1.lt
            refine hK.out _ _ (HCL.out _ _ hH3 hb4) (fun hH4 => ?_)
            clear hK K
            obtain ⟨w4, hw4⟩ : ∃ w4, w4 = w3.alloc (.cells #[.int .i64 0, .int .i64 0] 25) := ⟨_, rfl⟩
            rw [← hw4] at hH4 P4 Q4 ⊢
            clear hw4
            generalize w3.heap.size = kQ at *
            refine wpAnyH_ready (rs := [10]) (by kernel_rfl) (by simp) ?_
            refine AllReadyH.cons (o := ({ dst := none, op := Op.store 25 (Operand.tmp 9) (Operand.tmp 28), type := 0, pos := "law.go:64", after := #[{ on := 8, ground := Ground.data }, { on := 3, ground := Ground.data }, { on := 7, ground := Ground.chain }, { on := 0, ground := Ground.phase }, { on := 1, ground := Ground.phase }, { on := 2, ground := Ground.phase }, { on := 3, ground := Ground.phase }, { on := 4, ground := Ground.textOnly Departure.lateStores }, { on := 5, ground := Ground.textOnly Departure.lateStores }, { on := 6, ground := Ground.textOnly Departure.lateStores }, { on := 7, ground := Ground.textOnly Departure.lateStoresUnsure }, { on := 8, ground := Ground.phase }, { on := 9, ground := Ground.phase }], guard := none } : Oper)) rfl (fun K hK => ?_) AllReadyH.nil
            · have c0 := P4.1.1
              have c1 := P4.1.2
              have c2 := P4.2.1
              have c3 := P4.2.2
              go_simp
              have P5 := P4.wrote (x' := A.1) (y' := A.2)
              have Q5 := Q4.set' (q := kP) (by omega) (.int .i64 A.1) (.int .i64 A.2)
              refine hK.out _ _ (HST.out _ kP _ _ (by omega) hH4) (fun hH5 => ?_)
              clear hK K c0 c1 c2 c3
              obtain ⟨w5, hw5⟩ : ∃ w5, w5 = ((w4.setCell ⟨kP, 0, none⟩ (.int .i64 A.1)).setCell ⟨kP, 1, none⟩ (.int .i64 A.2)) := ⟨_, rfl⟩
              rw [← hw5] at hH5 P5 Q5 ⊢
              clear hw5
              refine wpAnyH_ready (rs := [11]) (by kernel_rfl) (by simp) ?_
              refine AllReadyH.cons (o := ({ dst := none, op := Op.store 25 (Operand.tmp 10) (Operand.tmp 32), type := 0, pos := "law.go:64", after := #[{ on := 9, ground := Ground.data }, { on := 7, ground := Ground.data }, { on := 10, ground := Ground.chain }, { on := 0, ground := Ground.phase }, { on := 1, ground := Ground.phase }, { on := 2, ground := Ground.phase }, { on := 3, ground := Ground.phase }, { on := 4, ground := Ground.phase }, { on := 5, ground := Ground.phase }, { on := 6, ground := Ground.phase }, { on := 7, ground := Ground.phase }, { on := 8, ground := Ground.phase }, { on := 9, ground := Ground.phase }, { on := 10, ground := Ground.phase }], guard := none } : Oper)) rfl (fun K hK => ?_) AllReadyH.nil
              · have c0 := Q5.1.1
                have c1 := Q5.1.2
                have c2 := Q5.2.1
                have c3 := Q5.2.2
                go_simp
                have Q6 := Q5.wrote (x' := B.1) (y' := B.2)
                have P6 := P5.set' (q := kQ) (by omega) (.int .i64 B.1) (.int .i64 B.2)
                refine hK.out _ _ (HST.out _ kQ _ _ (by omega) hH5) (fun hH6 => ?_)
                clear hK K c0 c1 c2 c3
                obtain ⟨w6, hw6⟩ : ∃ w6, w6 = ((w5.setCell ⟨kQ, 0, none⟩ (.int .i64 B.1)).setCell ⟨kQ, 1, none⟩ (.int .i64 B.2)) := ⟨_, rfl⟩
                rw [← hw6] at hH6 P6 Q6 ⊢
                clear hw6
                refine wpAnyH_done (by kernel_rfl) ?_ _
                go_wp2
                go_meet
                case rel => exact ⟨_, _, rfl, rfl, P6.1, Q6.1, hH6.2.2.2.2.2.out⟩
        · go_simp
          have hb3 : Below w2.heap.size w2 (w2.alloc (.cells #[.int .i64 0, .int .i64 0] 25)) := (Below.refl _ _).alloc (Nat.le_refl _) _
          have Q3 := Bz.new w2 0 0 25
          have neQ : N + 1 < w2.heap.size := hH2.2.2.2.2.1
          refine hK.out _ _ (HCL.out _ _ hH2 hb3) (fun hH3 => ?_)
          clear hK K
          obtain ⟨w3, hw3⟩ : ∃ w3, w3 = w2.alloc (.cells #[.int .i64 0, .int .i64 0] 25) := ⟨_, rfl⟩
          rw [← hw3] at hH3 Q3 ⊢
          clear hw3
          generalize w2.heap.size = kQ at *
          refine wpAnyH_ready (rs := [8]) (by kernel_rfl) (by simp) ?_
          refine AllReadyH.cons (o := ({ dst := some 9, op := Op.alloc 25, type := 0, pos := "law.go:64", after := #[], guard := none } : Oper)) rfl (fun K hK => ?_) AllReadyH.nil
          · go_simp
            have hb4 : Below w3.heap.size w3 (w3.alloc (.cells #[.int .i64 0, .int .i64 0] 25)) := (Below.refl _ _).alloc (Nat.le_refl _) _
            have Q4 := Q3.keep hb4
            have P4 := Bz.new w3 0 0 25
            have neP : N + 1 < w3.heap.size := hH3.2.2.2.2.1
            have neQP : kQ ≠ w3.heap.size := Nat.ne_of_lt Q3.1.lt
            refine hK.out _ _ (HCL.out _ _ hH3 hb4) (fun hH4 => ?_)
            clear hK K
            obtain ⟨w4, hw4⟩ : ∃ w4, w4 = w3.alloc (.cells #[.int .i64 0, .int .i64 0] 25) := ⟨_, rfl⟩
            rw [← hw4] at hH4 Q4 P4 ⊢
            clear hw4
            generalize w3.heap.size = kP at *
            refine wpAnyH_ready (rs := [10]) (by kernel_rfl) (by simp) ?_
            refine AllReadyH.cons (o := ({ dst := none, op := Op.store 25 (Operand.tmp 9) (Operand.tmp 28), type := 0, pos := "law.go:64", after := #[{ on := 8, ground := Ground.data }, { on := 3, ground := Ground.data }, { on := 7, ground := Ground.chain }, { on := 0, ground := Ground.phase }, { on := 1, ground := Ground.phase }, { on := 2, ground := Ground.phase }, { on := 3, ground := Ground.phase }, { on := 4, ground := Ground.textOnly Departure.lateStores }, { on := 5, ground := Ground.textOnly Departure.lateStores }, { on := 6, ground := Ground.textOnly Departure.lateStores }, { on := 7, ground := Ground.textOnly Departure.lateStoresUnsure }, { on := 8, ground := Ground.phase }, { on := 9, ground := Ground.phase }], guard := none } : Oper)) rfl (fun K hK => ?_) AllReadyH.nil
            · have c0 := P4.1.1
              have c1 := P4.1.2
              have c2 := P4.2.1
              have c3 := P4.2.2
              go_simp
              have P5 := P4.wrote (x' := A.1) (y' := A.2)
              have Q5 := Q4.set' (q := kP) (by omega) (.int .i64 A.1) (.int .i64 A.2)
              refine hK.out _ _ (HST.out _ kP _ _ (by omega) hH4) (fun hH5 => ?_)
              clear hK K c0 c1 c2 c3
              obtain ⟨w5, hw5⟩ : ∃ w5, w5 = ((w4.setCell ⟨kP, 0, none⟩ (.int .i64 A.1)).setCell ⟨kP, 1, none⟩ (.int .i64 A.2)) := ⟨_, rfl⟩
              rw [← hw5] at hH5 Q5 P5 ⊢
              clear hw5
              refine wpAnyH_ready (rs := [11]) (by kernel_rfl) (by simp) ?_
              refine AllReadyH.cons (o := ({ dst := none, op := Op.store 25 (Operand.tmp 10) (Operand.tmp 32), type := 0, pos := "law.go:64", after := #[{ on := 9, ground := Ground.data }, { on := 7, ground := Ground.data }, { on := 10, ground := Ground.chain }, { on := 0, ground := Ground.phase }, { on := 1, ground := Ground.phase }, { on := 2, ground := Ground.phase }, { on := 3, ground := Ground.phase }, { on := 4, ground := Ground.phase }, { on := 5, ground := Ground.phase }, { on := 6, ground := Ground.phase }, { on := 7, ground := Ground.phase }, { on := 8, ground := Ground.phase }, { on := 9, ground := Ground.phase }, { on := 10, ground := Ground.phase }], guard := none } : Oper)) rfl (fun K hK => ?_) AllReadyH.nil
              · have c0 := Q5.1.1
                have c1 := Q5.1.2
                have c2 := Q5.2.1
                have c3 := Q5.2.2
                go_simp
                have Q6 := Q5.wrote (x' := B.1) (y' := B.2)
                have P6 := P5.set' (q := kQ) (by omega) (.int .i64 B.1) (.int .i64 B.2)
                refine hK.out _ _ (HST.out _ kQ _ _ (by omega) hH5) (fun hH6 => ?_)
                clear hK K c0 c1 c2 c3
                obtain ⟨w6, hw6⟩ : ∃ w6, w6 = ((w5.setCell ⟨kQ, 0, none⟩ (.int .i64 B.1)).setCell ⟨kQ, 1, none⟩ (.int .i64 B.2)) := ⟨_, rfl⟩
                rw [← hw6] at hH6 Q6 P6 ⊢
                clear hw6
                refine wpAnyH_done (by kernel_rfl) ?_ _
                go_wp2
                go_meet
                case rel => exact ⟨_, _, rfl, rfl, P6.1, Q6.1, hH6.2.2.2.2.2.out⟩
      · go_simp
        have hb2 : Below w1.heap.size w1 (w1.alloc (.cells #[.int .i64 0, .int .i64 0] 25)) := (Below.refl _ _).alloc (Nat.le_refl _) _
        have P2 := Bz.new w1 0 0 25
        have neP : N + 1 < w1.heap.size := hH1.2.2.2.2.1
        refine hK.out _ _ (HCL.out _ _ hH1 hb2) (fun hH2 => ?_)
        clear hK K
        obtain ⟨w2, hw2⟩ : ∃ w2, w2 = w1.alloc (.cells #[.int .i64 0, .int .i64 0] 25) := ⟨_, rfl⟩
        rw [← hw2] at hH2 P2 ⊢
        clear hw2
        generalize w1.heap.size = kP at *
        refine wpAnyH_ready (rs := [7, 9]) (by kernel_rfl) (by simp) ?_
        refine AllReadyH.cons (o := ({ dst := some 32, op := Op.call { callee := Callee.value (Operand.func 33), args := #[Operand.tmp 30, Operand.tmp 31], argTypes := #[23, 2] }, type := 25, pos := "law.go:64", after := #[{ on := 5, ground := Ground.data }, { on := 6, ground := Ground.data }, { on := 3, ground := Ground.chain }], guard := none } : Oper)) rfl (fun K hK => ?_) (AllReadyH.cons (o := ({ dst := some 10, op := Op.alloc 25, type := 0, pos := "law.go:64", after := #[], guard := none } : Oper)) rfl (fun K hK => ?_) AllReadyH.nil)
        · go_simp
          go_at_call 33
          refine (cB _).mono ?_
          rintro e w3 ⟨rfl, hb3⟩
          have P3 := P2.keep hb3
          refine hK.out _ _ (HCL.out _ _ hH2 hb3) (fun hH3 => ?_)
          clear hK K
          refine wpAnyH_ready (rs := [9]) (by kernel_rfl) (by simp) ?_
          refine AllReadyH.cons (o := ({ dst := some 10, op := Op.alloc 25, type := 0, pos := "law.go:64", after := #[], guard := none } : Oper)) rfl (fun K hK => ?_) AllReadyH.nil
          · go_simp
            have hb4 : Below w3.heap.size w3 (w3.alloc (.cells #[.int .i64 0, .int .i64 0] 25)) := (Below.refl _ _).alloc (Nat.le_refl _) _
            have P4 := P3.keep hb4
            have Q4 := Bz.new w3 0 0 25
            have neQ : N + 1 < w3.heap.size := hH3.2.2.2.2.1
            have nePQ : kP ≠ w3.heap.size := Nat.ne_of_lt P3.1.lt
            refine hK.out _ _ (HCL.out _ _ hH3 hb4) (fun hH4 => ?_)
            clear hK K
            obtain ⟨w4, hw4⟩ : ∃ w4, w4 = w3.alloc (.cells #[.int .i64 0, .int .i64 0] 25) := ⟨_, rfl⟩
            rw [← hw4] at hH4 P4 Q4 ⊢
            clear hw4
            generalize w3.heap.size = kQ at *
            refine wpAnyH_ready (rs := [10]) (by kernel_rfl) (by simp) ?_
            refine AllReadyH.cons (o := ({ dst := none, op := Op.store 25 (Operand.tmp 9) (Operand.tmp 28), type := 0, pos := "law.go:64", after := #[{ on := 8, ground := Ground.data }, { on := 3, ground := Ground.data }, { on := 7, ground := Ground.chain }, { on := 0, ground := Ground.phase }, { on := 1, ground := Ground.phase }, { on := 2, ground := Ground.phase }, { on := 3, ground := Ground.phase }, { on := 4, ground := Ground.textOnly Departure.lateStores }, { on := 5, ground := Ground.textOnly Departure.lateStores }, { on := 6, ground := Ground.textOnly Departure.lateStores }, { on := 7, ground := Ground.textOnly Departure.lateStoresUnsure }, { on := 8, ground := Ground.phase }, { on := 9, ground := Ground.phase }], guard := none } : Oper)) rfl (fun K hK => ?_) AllReadyH.nil
            · have c0 := P4.1.1
              have c1 := P4.1.2
              have c2 := P4.2.1
              have c3 := P4.2.2
              go_simp
              have P5 := P4.wrote (x' := A.1) (y' := A.2)
              have Q5 := Q4.set' (q := kP) (by omega) (.int .i64 A.1) (.int .i64 A.2)
              refine hK.out _ _ (HST.out _ kP _ _ (by omega) hH4) (fun hH5 => ?_)
              clear hK K c0 c1 c2 c3
              obtain ⟨w5, hw5⟩ : ∃ w5, w5 = ((w4.setCell ⟨kP, 0, none⟩ (.int .i64 A.1)).setCell ⟨kP, 1, none⟩ (.int .i64 A.2)) := ⟨_, rfl⟩
              rw [← hw5] at hH5 P5 Q5 ⊢
              clear hw5
              refine wpAnyH_ready (rs := [11]) (by kernel_rfl) (by simp) ?_
              refine AllReadyH.cons (o := ({ dst := none, op := Op.store 25 (Operand.tmp 10) (Operand.tmp 32), type := 0, pos := "law.go:64", after := #[{ on := 9, ground := Ground.data }, { on := 7, ground := Ground.data }, { on := 10, ground := Ground.chain }, { on := 0, ground := Ground.phase }, { on := 1, ground := Ground.phase }, { on := 2, ground := Ground.phase }, { on := 3, ground := Ground.phase }, { on := 4, ground := Ground.phase }, { on := 5, ground := Ground.phase }, { on := 6, ground := Ground.phase }, { on := 7, ground := Ground.phase }, { on := 8, ground := Ground.phase }, { on := 9, ground := Ground.phase }, { on := 10, ground := Ground.phase }], guard := none } : Oper)) rfl (fun K hK => ?_) AllReadyH.nil
              · have c0 := Q5.1.1
                have c1 := Q5.1.2
                have c2 := Q5.2.1
                have c3 := Q5.2.2
                go_simp
                have Q6 := Q5.wrote (x' := B.1) (y' := B.2)
                have P6 := P5.set' (q := kQ) (by omega) (.int .i64 B.1) (.int .i64 B.2)
                refine hK.out _ _ (HST.out _ kQ _ _ (by omega) hH5) (fun hH6 => ?_)
                clear hK K c0 c1 c2 c3
                obtain ⟨w6, hw6⟩ : ∃ w6, w6 = ((w5.setCell ⟨kQ, 0, none⟩ (.int .i64 B.1)).setCell ⟨kQ, 1, none⟩ (.int .i64 B.2)) := ⟨_, rfl⟩
                rw [← hw6] at hH6 P6 Q6 ⊢
                clear hw6
                refine wpAnyH_done (by kernel_rfl) ?_ _
                go_wp2
                go_meet
                case rel => exact ⟨_, _, rfl, rfl, P6.1, Q6.1, hH6.2.2.2.2.2.out⟩
        · go_simp
          have hb3 : Below w2.heap.size w2 (w2.alloc (.cells #[.int .i64 0, .int .i64 0] 25)) := (Below.refl _ _).alloc (Nat.le_refl _) _
          have P3 := P2.keep hb3
          have Q3 := Bz.new w2 0 0 25
          have neQ : N + 1 < w2.heap.size := hH2.2.2.2.2.1
          have nePQ : kP ≠ w2.heap.size := Nat.ne_of_lt P2.1.lt
          refine hK.out _ _ (HCL.out _ _ hH2 hb3) (fun hH3 => ?_)
          clear hK K
          obtain ⟨w3, hw3⟩ : ∃ w3, w3 = w2.alloc (.cells #[.int .i64 0, .int .i64 0] 25) := ⟨_, rfl⟩
          rw [← hw3] at hH3 P3 Q3 ⊢
          clear hw3
          generalize w2.heap.size = kQ at *
          refine wpAnyH_ready (rs := [7]) (by kernel_rfl) (by simp) ?_
          refine AllReadyH.cons (o := ({ dst := some 32, op := Op.call { callee := Callee.value (Operand.func 33), args := #[Operand.tmp 30, Operand.tmp 31], argTypes := #[23, 2] }, type := 25, pos := "law.go:64", after := #[{ on := 5, ground := Ground.data }, { on := 6, ground := Ground.data }, { on := 3, ground := Ground.chain }], guard := none } : Oper)) rfl (fun K hK => ?_) AllReadyH.nil
          · go_simp
            go_at_call 33
            refine (cB _).mono ?_
            rintro e w4 ⟨rfl, hb4⟩
            have P4 := P3.keep hb4
            have Q4 := Q3.keep hb4
            refine hK.out _ _ (HCL.out _ _ hH3 hb4) (fun hH4 => ?_)
            clear hK K
            refine wpAnyH_ready (rs := [10]) (by kernel_rfl) (by simp) ?_
            refine AllReadyH.cons (o := ({ dst := none, op := Op.store 25 (Operand.tmp 9) (Operand.tmp 28), type := 0, pos := "law.go:64", after := #[{ on := 8, ground := Ground.data }, { on := 3, ground := Ground.data }, { on := 7, ground := Ground.chain }, { on := 0, ground := Ground.phase }, { on := 1, ground := Ground.phase }, { on := 2, ground := Ground.phase }, { on := 3, ground := Ground.phase }, { on := 4, ground := Ground.textOnly Departure.lateStores }, { on := 5, ground := Ground.textOnly Departure.lateStores }, { on := 6, ground := Ground.textOnly Departure.lateStores }, { on := 7, ground := Ground.textOnly Departure.lateStoresUnsure }, { on := 8, ground := Ground.phase }, { on := 9, ground := Ground.phase }], guard := none } : Oper)) rfl (fun K hK => ?_) AllReadyH.nil
            · have c0 := P4.1.1
              have c1 := P4.1.2
              have c2 := P4.2.1
              have c3 := P4.2.2
              go_simp
              have P5 := P4.wrote (x' := A.1) (y' := A.2)
              have Q5 := Q4.set' (q := kP) (by omega) (.int .i64 A.1) (.int .i64 A.2)
              refine hK.out _ _ (HST.out _ kP _ _ (by omega) hH4) (fun hH5 => ?_)
              clear hK K c0 c1 c2 c3
              obtain ⟨w5, hw5⟩ : ∃ w5, w5 = ((w4.setCell ⟨kP, 0, none⟩ (.int .i64 A.1)).setCell ⟨kP, 1, none⟩ (.int .i64 A.2)) := ⟨_, rfl⟩
              rw [← hw5] at hH5 P5 Q5 ⊢
              clear hw5
              refine wpAnyH_ready (rs := [11]) (by kernel_rfl) (by simp) ?_
              refine AllReadyH.cons (o := ({ dst := none, op := Op.store 25 (Operand.tmp 10) (Operand.tmp 32), type := 0, pos := "law.go:64", after := #[{ on := 9, ground := Ground.data }, { on := 7, ground := Ground.data }, { on := 10, ground := Ground.chain }, { on := 0, ground := Ground.phase }, { on := 1, ground := Ground.phase }, { on := 2, ground := Ground.phase }, { on := 3, ground := Ground.phase }, { on := 4, ground := Ground.phase }, { on := 5, ground := Ground.phase }, { on := 6, ground := Ground.phase }, { on := 7, ground := Ground.phase }, { on := 8, ground := Ground.phase }, { on := 9, ground := Ground.phase }, { on := 10, ground := Ground.phase }], guard := none } : Oper)) rfl (fun K hK => ?_) AllReadyH.nil
              · have c0 := Q5.1.1
                have c1 := Q5.1.2
                have c2 := Q5.2.1
                have c3 := Q5.2.2
                go_simp
                have Q6 := Q5.wrote (x' := B.1) (y' := B.2)
                have P6 := P5.set' (q := kQ) (by omega) (.int .i64 B.1) (.int .i64 B.2)
                refine hK.out _ _ (HST.out _ kQ _ _ (by omega) hH5) (fun hH6 => ?_)
                clear hK K c0 c1 c2 c3
                obtain ⟨w6, hw6⟩ : ∃ w6, w6 = ((w5.setCell ⟨kQ, 0, none⟩ (.int .i64 B.1)).setCell ⟨kQ, 1, none⟩ (.int .i64 B.2)) := ⟨_, rfl⟩
                rw [← hw6] at hH6 P6 Q6 ⊢
                clear hw6
                refine wpAnyH_done (by kernel_rfl) ?_ _
                go_wp2
                go_meet
                case rel => exact ⟨_, _, rfl, rfl, P6.1, Q6.1, hH6.2.2.2.2.2.out⟩
      · go_simp
        have hb2 : Below w1.heap.size w1 (w1.alloc (.cells #[.int .i64 0, .int .i64 0] 25)) := (Below.refl _ _).alloc (Nat.le_refl _) _
        have Q2 := Bz.new w1 0 0 25
        have neQ : N + 1 < w1.heap.size := hH1.2.2.2.2.1
        refine hK.out _ _ (HCL.out _ _ hH1 hb2) (fun hH2 => ?_)
        clear hK K
        obtain ⟨w2, hw2⟩ : ∃ w2, w2 = w1.alloc (.cells #[.int .i64 0, .int .i64 0] 25) := ⟨_, rfl⟩
        rw [← hw2] at hH2 Q2 ⊢
        clear hw2
        generalize w1.heap.size = kQ at *
        refine wpAnyH_ready (rs := [7, 8]) (by kernel_rfl) (by simp) ?_
        refine AllReadyH.cons (o := ({ dst := some 32, op := Op.call { callee := Callee.value (Operand.func 33), args := #[Operand.tmp 30, Operand.tmp 31], argTypes := #[23, 2] }, type := 25, pos := "law.go:64", after := #[{ on := 5, ground := Ground.data }, { on := 6, ground := Ground.data }, { on := 3, ground := Ground.chain }], guard := none } : Oper)) rfl (fun K hK => ?_) (AllReadyH.cons (o := ({ dst := some 9, op := Op.alloc 25, type := 0, pos := "law.go:64", after := #[], guard := none } : Oper)) rfl (fun K hK => ?_) AllReadyH.nil)
        · go_simp
          go_at_call 33
          refine (cB _).mono ?_
          rintro e w3 ⟨rfl, hb3⟩
          have Q3 := Q2.keep hb3
          refine hK.out _ _ (HCL.out _ _ hH2 hb3) (fun hH3 => ?_)
          clear hK K
          refine wpAnyH_ready (rs := [8]) (by kernel_rfl) (by simp) ?_
          refine AllReadyH.cons (o := ({ dst := some 9, op := Op.alloc 25, type := 0, pos := "law.go:64", after := #[], guard := none } : Oper)) rfl (fun K hK => ?_) AllReadyH.nil
          · go_simp
            have hb4 : Below w3.heap.size w3 (w3.alloc (.cells #[.int .i64 0, .int .i64 0] 25)) := (Below.refl _ _).alloc (Nat.le_refl _) _
            have Q4 := Q3.keep hb4
            have P4 := Bz.new w3 0 0 25
            have neP : N + 1 < w3.heap.size := hH3.2.2.2.2.1
            have neQP : kQ ≠ w3.heap.size := Nat.ne_of_lt Q3.1.lt
            refine hK.out _ _ (HCL.out _ _ hH3 hb4) (fun hH4 => ?_)
            clear hK K
            obtain ⟨w4, hw4⟩ : ∃ w4, w4 = w3.alloc (.cells #[.int .i64 0, .int .i64 0] 25) := ⟨_, rfl⟩
            rw [← hw4] at hH4 Q4 P4 ⊢
            clear hw4
            generalize w3.heap.size = kP at *
            refine wpAnyH_ready (rs := [10]) (by kernel_rfl) (by simp) ?_
            refine AllReadyH.cons (o := ({ dst := none, op := Op.store 25 (Operand.tmp 9) (Operand.tmp 28), type := 0, pos := "law.go:64", after := #[{ on := 8, ground := Ground.data }, { on := 3, ground := Ground.data }, { on := 7, ground := Ground.chain }, { on := 0, ground := Ground.phase }, { on := 1, ground := Ground.phase }, { on := 2, ground := Ground.phase }, { on := 3, ground := Ground.phase }, { on := 4, ground := Ground.textOnly Departure.lateStores }, { on := 5, ground := Ground.textOnly Departure.lateStores }, { on := 6, ground := Ground.textOnly Departure.lateStores }, { on := 7, ground := Ground.textOnly Departure.lateStoresUnsure }, { on := 8, ground := Ground.phase }, { on := 9, ground := Ground.phase }], guard := none } : Oper)) rfl (fun K hK => ?_) AllReadyH.nil
            · have c0 := P4.1.1
              have c1 := P4.1.2
              have c2 := P4.2.1
              have c3 := P4.2.2
              go_simp
              have P5 := P4.wrote (x' := A.1) (y' := A.2)
              have Q5 := Q4.set' (q := kP) (by omega) (.int .i64 A.1) (.int .i64 A.2)
              refine hK.out _ _ (HST.out _ kP _ _ (by omega) hH4) (fun hH5 => ?_)
              clear hK K c0 c1 c2 c3
              obtain ⟨w5, hw5⟩ : ∃ w5, w5 = ((w4.setCell ⟨kP, 0, none⟩ (.int .i64 A.1)).setCell ⟨kP, 1, none⟩ (.int .i64 A.2)) := ⟨_, rfl⟩
              rw [← hw5] at hH5 Q5 P5 ⊢
              clear hw5
              refine wpAnyH_ready (rs := [11]) (by kernel_rfl) (by simp) ?_
              refine AllReadyH.cons (o := ({ dst := none, op := Op.store 25 (Operand.tmp 10) (Operand.tmp 32), type := 0, pos := "law.go:64", after := #[{ on := 9, ground := Ground.data }, { on := 7, ground := Ground.data }, { on := 10, ground := Ground.chain }, { on := 0, ground := Ground.phase }, { on := 1, ground := Ground.phase }, { on := 2, ground := Ground.phase }, { on := 3, ground := Ground.phase }, { on := 4, ground := Ground.phase }, { on := 5, ground := Ground.phase }, { on := 6, ground := Ground.phase }, { on := 7, ground := Ground.phase }, { on := 8, ground := Ground.phase }, { on := 9, ground := Ground.phase }, { on := 10, ground := Ground.phase }], guard := none } : Oper)) rfl (fun K hK => ?_) AllReadyH.nil
              · have c0 := Q5.1.1
                have c1 := Q5.1.2
                have c2 := Q5.2.1
                have c3 := Q5.2.2
                go_simp
                have Q6 := Q5.wrote (x' := B.1) (y' := B.2)
                have P6 := P5.set' (q := kQ) (by omega) (.int .i64 B.1) (.int .i64 B.2)
                refine hK.out _ _ (HST.out _ kQ _ _ (by omega) hH5) (fun hH6 => ?_)
                clear hK K c0 c1 c2 c3
                obtain ⟨w6, hw6⟩ : ∃ w6, w6 = ((w5.setCell ⟨kQ, 0, none⟩ (.int .i64 B.1)).setCell ⟨kQ, 1, none⟩ (.int .i64 B.2)) := ⟨_, rfl⟩
                rw [← hw6] at hH6 Q6 P6 ⊢
                clear hw6
                refine wpAnyH_done (by kernel_rfl) ?_ _
                go_wp2
                go_meet
                case rel => exact ⟨_, _, rfl, rfl, P6.1, Q6.1, hH6.2.2.2.2.2.out⟩
        · go_simp
          have hb3 : Below w2.heap.size w2 (w2.alloc (.cells #[.int .i64 0, .int .i64 0] 25)) := (Below.refl _ _).alloc (Nat.le_refl _) _
          have Q3 := Q2.keep hb3
          have P3 := Bz.new w2 0 0 25
          have neP : N + 1 < w2.heap.size := hH2.2.2.2.2.1
          have neQP : kQ ≠ w2.heap.size := Nat.ne_of_lt Q2.1.lt
          refine hK.out _ _ (HCL.out _ _ hH2 hb3) (fun hH3 => ?_)
          clear hK K
          obtain ⟨w3, hw3⟩ : ∃ w3, w3 = w2.alloc (.cells #[.int .i64 0, .int .i64 0] 25) := ⟨_, rfl⟩
          rw [← hw3] at hH3 Q3 P3 ⊢
          clear hw3
          generalize w2.heap.size = kP at *
          refine wpAnyH_ready (rs := [7]) (by kernel_rfl) (by simp) ?_
          refine AllReadyH.cons (o := ({ dst := some 32, op := Op.call { callee := Callee.value (Operand.func 33), args := #[Operand.tmp 30, Operand.tmp 31], argTypes := #[23, 2] }, type := 25, pos := "law.go:64", after := #[{ on := 5, ground := Ground.data }, { on := 6, ground := Ground.data }, { on := 3, ground := Ground.chain }], guard := none } : Oper)) rfl (fun K hK => ?_) AllReadyH.nil
          · go_simp
            go_at_call 33
            refine (cB _).mono ?_
            rintro e w4 ⟨rfl, hb4⟩
            have Q4 := Q3.keep hb4
            have P4 := P3.keep hb4
            refine hK.out _ _ (HCL.out _ _ hH3 hb4) (fun hH4 => ?_)
            clear hK K
            refine wpAnyH_ready (rs := [10]) (by kernel_rfl) (by simp) ?_
            refine AllReadyH.cons (o := ({ dst := none, op := Op.store 25 (Operand.tmp 9) (Operand.tmp 28), type := 0, pos := "law.go:64", after := #[{ on := 8, ground := Ground.data }, { on := 3, ground := Ground.data }, { on := 7, ground := Ground.chain }, { on := 0, ground := Ground.phase }, { on := 1, ground := Ground.phase }, { on := 2, ground := Ground.phase }, { on := 3, ground := Ground.phase }, { on := 4, ground := Ground.textOnly Departure.lateStores }, { on := 5, ground := Ground.textOnly Departure.lateStores }, { on := 6, ground := Ground.textOnly Departure.lateStores }, { on := 7, ground := Ground.textOnly Departure.lateStoresUnsure }, { on := 8, ground := Ground.phase }, { on := 9, ground := Ground.phase }], guard := none } : Oper)) rfl (fun K hK => ?_) AllReadyH.nil
            · have c0 := P4.1.1
              have c1 := P4.1.2
              have c2 := P4.2.1
              have c3 := P4.2.2
              go_simp
              have P5 := P4.wrote (x' := A.1) (y' := A.2)
              have Q5 := Q4.set' (q := kP) (by omega) (.int .i64 A.1) (.int .i64 A.2)
              refine hK.out _ _ (HST.out _ kP _ _ (by omega) hH4) (fun hH5 => ?_)
              clear hK K c0 c1 c2 c3
              obtain ⟨w5, hw5⟩ : ∃ w5, w5 = ((w4.setCell ⟨kP, 0, none⟩ (.int .i64 A.1)).setCell ⟨kP, 1, none⟩ (.int .i64 A.2)) := ⟨_, rfl⟩
              rw [← hw5] at hH5 Q5 P5 ⊢
              clear hw5
              refine wpAnyH_ready (rs := [11]) (by kernel_rfl) (by simp) ?_
              refine AllReadyH.cons (o := ({ dst := none, op := Op.store 25 (Operand.tmp 10) (Operand.tmp 32), type := 0, pos := "law.go:64", after := #[{ on := 9, ground := Ground.data }, { on := 7, ground := Ground.data }, { on := 10, ground := Ground.chain }, { on := 0, ground := Ground.phase }, { on := 1, ground := Ground.phase }, { on := 2, ground := Ground.phase }, { on := 3, ground := Ground.phase }, { on := 4, ground := Ground.phase }, { on := 5, ground := Ground.phase }, { on := 6, ground := Ground.phase }, { on := 7, ground := Ground.phase }, { on := 8, ground := Ground.phase }, { on := 9, ground := Ground.phase }, { on := 10, ground := Ground.phase }], guard := none } : Oper)) rfl (fun K hK => ?_) AllReadyH.nil
              · have c0 := Q5.1.1
                have c1 := Q5.1.2
                have c2 := Q5.2.1
                have c3 := Q5.2.2
                go_simp
                have Q6 := Q5.wrote (x' := B.1) (y' := B.2)
                have P6 := P5.set' (q := kQ) (by omega) (.int .i64 B.1) (.int .i64 B.2)
                refine hK.out _ _ (HST.out _ kQ _ _ (by omega) hH5) (fun hH6 => ?_)
                clear hK K c0 c1 c2 c3
                obtain ⟨w6, hw6⟩ : ∃ w6, w6 = ((w5.setCell ⟨kQ, 0, none⟩ (.int .i64 B.1)).setCell ⟨kQ, 1, none⟩ (.int .i64 B.2)) := ⟨_, rfl⟩
                rw [← hw6] at hH6 Q6 P6 ⊢
                clear hw6
                refine wpAnyH_done (by kernel_rfl) ?_ _
                go_wp2
                go_meet
                case rel => exact ⟨_, _, rfl, rfl, P6.1, Q6.1, hH6.2.2.2.2.2.out⟩
    · go_simp
      have hb1 : Below w0.heap.size w0 (w0.alloc (.cells #[.int .i64 0, .int .i64 0] 25)) := (Below.refl _ _).alloc (Nat.le_refl _) _
      have P1 := Bz.new w0 0 0 25
      have neP : N + 1 < w0.heap.size := hH0.2.2.2.2.1
      refine hK.out _ _ (HCL.out _ _ hH0 hb1) (fun hH1 => ?_)
      clear hK K
      obtain ⟨w1, hw1⟩ : ∃ w1, w1 = w0.alloc (.cells #[.int .i64 0, .int .i64 0] 25) := ⟨_, rfl⟩
      rw [← hw1] at hH1 P1 ⊢
      clear hw1
      generalize w0.heap.size = kP at *
      refine wpAnyH_ready (rs := [3, 9]) (by kernel_rfl) (by simp) ?_
      refine AllReadyH.cons (o := ({ dst := some 28, op := Op.call { callee := Callee.value (Operand.func 33), args := #[Operand.tmp 26, Operand.tmp 27], argTypes := #[23, 2] }, type := 25, pos := "law.go:64", after := #[{ on := 1, ground := Ground.data }, { on := 2, ground := Ground.data }], guard := none } : Oper)) rfl (fun K hK => ?_) (AllReadyH.cons (o := ({ dst := some 10, op := Op.alloc 25, type := 0, pos := "law.go:64", after := #[], guard := none } : Oper)) rfl (fun K hK => ?_) AllReadyH.nil)
      · go_simp
        go_at_call 33
        refine (cA _).mono ?_
        rintro e w2 ⟨rfl, hb2⟩
        have P2 := P1.keep hb2
        refine hK.out _ _ (HCL.out _ _ hH1 hb2) (fun hH2 => ?_)
        clear hK K
        refine wpAnyH_ready (rs := [7, 9]) (by kernel_rfl) (by simp) ?_
        refine AllReadyH.cons (o := ({ dst := some 32, op := Op.call { callee := Callee.value (Operand.func 33), args := #[Operand.tmp 30, Operand.tmp 31], argTypes := #[23, 2] }, type := 25, pos := "law.go:64", after := #[{ on := 5, ground := Ground.data }, { on := 6, ground := Ground.data }, { on := 3, ground := Ground.chain }], guard := none } : Oper)) rfl (fun K hK => ?_) (AllReadyH.cons (o := ({ dst := some 10, op := Op.alloc 25, type := 0, pos := "law.go:64", after := #[], guard := none } : Oper)) rfl (fun K hK => ?_) AllReadyH.nil)
        · go_simp
          go_at_call 33
          refine (cB _).mono ?_
          rintro e w3 ⟨rfl, hb3⟩
          have P3 := P2.keep hb3
          refine hK.out _ _ (HCL.out _ _ hH2 hb3) (fun hH3 => ?_)
          clear hK K
          refine wpAnyH_ready (rs := [9]) (by kernel_rfl) (by simp) ?_
          refine AllReadyH.cons (o := ({ dst := some 10, op := Op.alloc 25, type := 0, pos := "law.go:64", after := #[], guard := none } : Oper)) rfl (fun K hK => ?_) AllReadyH.nil
          · go_simp
            have hb4 : Below w3.heap.size w3 (w3.alloc (.cells #[.int .i64 0, .int .i64 0] 25)) := (Below.refl _ _).alloc (Nat.le_refl _) _
            have P4 := P3.keep hb4
            have Q4 := Bz.new w3 0 0 25
            have neQ : N + 1 < w3.heap.size := hH3.2.2.2.2.1
            have nePQ : kP ≠ w3.heap.size := Nat.ne_of_lt P3.1.lt
            refine hK.out _ _ (HCL.out _ _ hH3 hb4) (fun hH4 => ?_)
            clear hK K
            obtain ⟨w4, hw4⟩ : ∃ w4, w4 = w3.alloc (.cells #[.int .i64 0, .int .i64 0] 25) := ⟨_, rfl⟩
            rw [← hw4] at hH4 P4 Q4 ⊢
            clear hw4
            generalize w3.heap.size = kQ at *
            refine wpAnyH_ready (rs := [10]) (by kernel_rfl) (by simp) ?_
            refine AllReadyH.cons (o := ({ dst := none, op := Op.store 25 (Operand.tmp 9) (Operand.tmp 28), type := 0, pos := "law.go:64", after := #[{ on := 8, ground := Ground.data }, { on := 3, ground := Ground.data }, { on := 7, ground := Ground.chain }, { on := 0, ground := Ground.phase }, { on := 1, ground := Ground.phase }, { on := 2, ground := Ground.phase }, { on := 3, ground := Ground.phase }, { on := 4, ground := Ground.textOnly Departure.lateStores }, { on := 5, ground := Ground.textOnly Departure.lateStores }, { on := 6, ground := Ground.textOnly Departure.lateStores }, { on := 7, ground := Ground.textOnly Departure.lateStoresUnsure }, { on := 8, ground := Ground.phase }, { on := 9, ground := Ground.phase }], guard := none } : Oper)) rfl (fun K hK => ?_) AllReadyH.nil
            · have c0 := P4.1.1
              have c1 := P4.1.2
              have c2 := P4.2.1
              have c3 := P4.2.2
              go_simp
              have P5 := P4.wrote (x' := A.1) (y' := A.2)
              have Q5 := Q4.set' (q := kP) (by omega) (.int .i64 A.1) (.int .i64 A.2)
              refine hK.out _ _ (HST.out _ kP _ _ (by omega) hH4) (fun hH5 => ?_)
              clear hK K c0 c1 c2 c3
              obtain ⟨w5, hw5⟩ : ∃ w5, w5 = ((w4.setCell ⟨kP, 0, none⟩ (.int .i64 A.1)).setCell ⟨kP, 1, none⟩ (.int .i64 A.2)) := ⟨_, rfl⟩
              rw [← hw5] at hH5 P5 Q5 ⊢
              clear hw5
              refine wpAnyH_ready (rs := [11]) (by kernel_rfl) (by simp) ?_
              refine AllReadyH.cons (o := ({ dst := none, op := Op.store 25 (Operand.tmp 10) (Operand.tmp 32), type := 0, pos := "law.go:64", after := #[{ on := 9, ground := Ground.data }, { on := 7, ground := Ground.data }, { on := 10, ground := Ground.chain }, { on := 0, ground := Ground.phase }, { on := 1, ground := Ground.phase }, { on := 2, ground := Ground.phase }, { on := 3, ground := Ground.phase }, { on := 4, ground := Ground.phase }, { on := 5, ground := Ground.phase }, { on := 6, ground := Ground.phase }, { on := 7, ground := Ground.phase }, { on := 8, ground := Ground.phase }, { on := 9, ground := Ground.phase }, { on := 10, ground := Ground.phase }], guard := none } : Oper)) rfl (fun K hK => ?_) AllReadyH.nil
              · have c0 := Q5.1.1
                have c1 := Q5.1.2
                have c2 := Q5.2.1
                have c3 := Q5.2.2
                go_simp
                have Q6 := Q5.wrote (x' := B.1) (y' := B.2)
                have P6 := P5.set' (q := kQ) (by omega) (.int .i64 B.1) (.int .i64 B.2)
                refine hK.out _ _ (HST.out _ kQ _ _ (by omega) hH5) (fun hH6 => ?_)
                clear hK K c0 c1 c2 c3
                obtain ⟨w6, hw6⟩ : ∃ w6, w6 = ((w5.setCell ⟨kQ, 0, none⟩ (.int .i64 B.1)).setCell ⟨kQ, 1, none⟩ (.int .i64 B.2)) := ⟨_, rfl⟩
                rw [← hw6] at hH6 P6 Q6 ⊢
                clear hw6
                refine wpAnyH_done (by kernel_rfl) ?_ _
                go_wp2
                go_meet
                case rel => exact ⟨_, _, rfl, rfl, P6.1, Q6.1, hH6.2.2.2.2.2.out⟩
        · go_simp
          have hb3 : Below w2.heap.size w2 (w2.alloc (.cells #[.int .i64 0, .int .i64 0] 25)) := (Below.refl _ _).alloc (Nat.le_refl _) _
          have P3 := P2.keep hb3
          have Q3 := Bz.new w2 0 0 25
          have neQ : N + 1 < w2.heap.size := hH2.2.2.2.2.1
          have nePQ : kP ≠ w2.heap.size := Nat.ne_of_lt P2.1.lt
          refine hK.out _ _ (HCL.out _ _ hH2 hb3) (fun hH3 => ?_)
          clear hK K
          obtain ⟨w3, hw3⟩ : ∃ w3, w3 = w2.alloc (.cells #[.int .i64 0, .int .i64 0] 25) := ⟨_, rfl⟩
          rw [← hw3] at hH3 P3 Q3 ⊢
          clear hw3
          generalize w2.heap.size = kQ at *
          refine wpAnyH_ready (rs := [7]) (by kernel_rfl) (by simp) ?_
          refine AllReadyH.cons (o := ({ dst := some 32, op := Op.call { callee := Callee.value (Operand.func 33), args := #[Operand.tmp 30, Operand.tmp 31], argTypes := #[23, 2] }, type := 25, pos := "law.go:64", after := #[{ on := 5, ground := Ground.data }, { on := 6, ground := Ground.data }, { on := 3, ground := Ground.chain }], guard := none } : Oper)) rfl (fun K hK => ?_) AllReadyH.nil
          · go_simp
            go_at_call 33
            refine (cB _).mono ?_
            rintro e w4 ⟨rfl, hb4⟩
            have P4 := P3.keep hb4
            have Q4 := Q3.keep hb4
            refine hK.out _ _ (HCL.out _ _ hH3 hb4) (fun hH4 => ?_)
            clear hK K
            refine wpAnyH_ready (rs := [10]) (by kernel_rfl) (by simp) ?_
            refine AllReadyH.cons (o := ({ dst := none, op := Op.store 25 (Operand.tmp 9) (Operand.tmp 28), type := 0, pos := "law.go:64", after := #[{ on := 8, ground := Ground.data }, { on := 3, ground := Ground.data }, { on := 7, ground := Ground.chain }, { on := 0, ground := Ground.phase }, { on := 1, ground := Ground.phase }, { on := 2, ground := Ground.phase }, { on := 3, ground := Ground.phase }, { on := 4, ground := Ground.textOnly Departure.lateStores }, { on := 5, ground := Ground.textOnly Departure.lateStores }, { on := 6, ground := Ground.textOnly Departure.lateStores }, { on := 7, ground := Ground.textOnly Departure.lateStoresUnsure }, { on := 8, ground := Ground.phase }, { on := 9, ground := Ground.phase }], guard := none } : Oper)) rfl (fun K hK => ?_) AllReadyH.nil
            · have c0 := P4.1.1
              have c1 := P4.1.2
              have c2 := P4.2.1
              have c3 := P4.2.2
              go_simp
              have P5 := P4.wrote (x' := A.1) (y' := A.2)
              have Q5 := Q4.set' (q := kP) (by omega) (.int .i64 A.1) (.int .i64 A.2)
              refine hK.out _ _ (HST.out _ kP _ _ (by omega) hH4) (fun hH5 => ?_)
              clear hK K c0 c1 c2 c3
              obtain ⟨w5, hw5⟩ : ∃ w5, w5 = ((w4.setCell ⟨kP, 0, none⟩ (.int .i64 A.1)).setCell ⟨kP, 1, none⟩ (.int .i64 A.2)) := ⟨_, rfl⟩
              rw [← hw5] at hH5 P5 Q5 ⊢
              clear hw5
              refine wpAnyH_ready (rs := [11]) (by kernel_rfl) (by simp) ?_
              refine AllReadyH.cons (o := ({ dst := none, op := Op.store 25 (Operand.tmp 10) (Operand.tmp 32), type := 0, pos := "law.go:64", after := #[{ on := 9, ground := Ground.data }, { on := 7, ground := Ground.data }, { on := 10, ground := Ground.chain }, { on := 0, ground := Ground.phase }, { on := 1, ground := Ground.phase }, { on := 2, ground := Ground.phase }, { on := 3, ground := Ground.phase }, { on := 4, ground := Ground.phase }, { on := 5, ground := Ground.phase }, { on := 6, ground := Ground.phase }, { on := 7, ground := Ground.phase }, { on := 8, ground := Ground.phase }, { on := 9, ground := Ground.phase }, { on := 10, ground := Ground.phase }], guard := none } : Oper)) rfl (fun K hK => ?_) AllReadyH.nil
              · have c0 := Q5.1.1
                have c1 := Q5.1.2
                have c2 := Q5.2.1
                have c3 := Q5.2.2
                go_simp
                have Q6 := Q5.wrote (x' := B.1) (y' := B.2)
                have P6 := P5.set' (q := kQ) (by omega) (.int .i64 B.1) (.int .i64 B.2)
                refine hK.out _ _ (HST.out _ kQ _ _ (by omega) hH5) (fun hH6 => ?_)
                clear hK K c0 c1 c2 c3
                obtain ⟨w6, hw6⟩ : ∃ w6, w6 = ((w5.setCell ⟨kQ, 0, none⟩ (.int .i64 B.1)).setCell ⟨kQ, 1, none⟩ (.int .i64 B.2)) := ⟨_, rfl⟩
                rw [← hw6] at hH6 P6 Q6 ⊢
                clear hw6
                refine wpAnyH_done (by kernel_rfl) ?_ _
                go_wp2
                go_meet
                case rel => exact ⟨_, _, rfl, rfl, P6.1, Q6.1, hH6.2.2.2.2.2.out⟩
      · go_simp
        have hb2 : Below w1.heap.size w1 (w1.alloc (.cells #[.int .i64 0, .int .i64 0] 25)) := (Below.refl _ _).alloc (Nat.le_refl _) _
        have P2 := P1.keep hb2
        have Q2 := Bz.new w1 0 0 25
        have neQ : N + 1 < w1.heap.size := hH1.2.2.2.2.1
        have nePQ : kP ≠ w1.heap.size := Nat.ne_of_lt P1.1.lt
        refine hK.out _ _ (HCL.out _ _ hH1 hb2) (fun hH2 => ?_)
        clear hK K
        obtain ⟨w2, hw2⟩ : ∃ w2, w2 = w1.alloc (.cells #[.int .i64 0, .int .i64 0] 25) := ⟨_, rfl⟩
        rw [← hw2] at hH2 P2 Q2 ⊢
        clear hw2
        generalize w1.heap.size = kQ at *
        refine wpAnyH_ready (rs := [3]) (by kernel_rfl) (by simp) ?_
        refine AllReadyH.cons (o := ({ dst := some 28, op := Op.call { callee := Callee.value (Operand.func 33), args := #[Operand.tmp 26, Operand.tmp 27], argTypes := #[23, 2] }, type := 25, pos := "law.go:64", after := #[{ on := 1, ground := Ground.data }, { on := 2, ground := Ground.data }], guard := none } : Oper)) rfl (fun K hK => ?_) AllReadyH.nil
        · go_simp
          go_at_call 33
          refine (cA _).mono ?_
          rintro e w3 ⟨rfl, hb3⟩
          have P3 := P2.keep hb3
          have Q3 := Q2.keep hb3
          refine hK.out _ _ (HCL.out _ _ hH2 hb3) (fun hH3 => ?_)
          clear hK K
          refine wpAnyH_ready (rs := [7]) (by kernel_rfl) (by simp) ?_
          refine AllReadyH.cons (o := ({ dst := some 32, op := Op.call { callee := Callee.value (Operand.func 33), args := #[Operand.tmp 30, Operand.tmp 31], argTypes := #[23, 2] }, type := 25, pos := "law.go:64", after := #[{ on := 5, ground := Ground.data }, { on := 6, ground := Ground.data }, { on := 3, ground := Ground.chain }], guard := none } : Oper)) rfl (fun K hK => ?_) AllReadyH.nil
          · go_simp
            go_at_call 33
            refine (cB _).mono ?_
            rintro e w4 ⟨rfl, hb4⟩
            have P4 := P3.keep hb4
            have Q4 := Q3.keep hb4
            refine hK.out _ _ (HCL.out _ _ hH3 hb4) (fun hH4 => ?_)
            clear hK K
            refine wpAnyH_ready (rs := [10]) (by kernel_rfl) (by simp) ?_
            refine AllReadyH.cons (o := ({ dst := none, op := Op.store 25 (Operand.tmp 9) (Operand.tmp 28), type := 0, pos := "law.go:64", after := #[{ on := 8, ground := Ground.data }, { on := 3, ground := Ground.data }, { on := 7, ground := Ground.chain }, { on := 0, ground := Ground.phase }, { on := 1, ground := Ground.phase }, { on := 2, ground := Ground.phase }, { on := 3, ground := Ground.phase }, { on := 4, ground := Ground.textOnly Departure.lateStores }, { on := 5, ground := Ground.textOnly Departure.lateStores }, { on := 6, ground := Ground.textOnly Departure.lateStores }, { on := 7, ground := Ground.textOnly Departure.lateStoresUnsure }, { on := 8, ground := Ground.phase }, { on := 9, ground := Ground.phase }], guard := none } : Oper)) rfl (fun K hK => ?_) AllReadyH.nil
            · have c0 := P4.1.1
              have c1 := P4.1.2
              have c2 := P4.2.1
              have c3 := P4.2.2
              go_simp
              have P5 := P4.wrote (x' := A.1) (y' := A.2)
              have Q5 := Q4.set' (q := kP) (by omega) (.int .i64 A.1) (.int .i64 A.2)
              refine hK.out _ _ (HST.out _ kP _ _ (by omega) hH4) (fun hH5 => ?_)
              clear hK K c0 c1 c2 c3
              obtain ⟨w5, hw5⟩ : ∃ w5, w5 = ((w4.setCell ⟨kP, 0, none⟩ (.int .i64 A.1)).setCell ⟨kP, 1, none⟩ (.int .i64 A.2)) := ⟨_, rfl⟩
              rw [← hw5] at hH5 P5 Q5 ⊢
              clear hw5
              refine wpAnyH_ready (rs := [11]) (by kernel_rfl) (by simp) ?_
              refine AllReadyH.cons (o := ({ dst := none, op := Op.store 25 (Operand.tmp 10) (Operand.tmp 32), type := 0, pos := "law.go:64", after := #[{ on := 9, ground := Ground.data }, { on := 7, ground := Ground.data }, { on := 10, ground := Ground.chain }, { on := 0, ground := Ground.phase }, { on := 1, ground := Ground.phase }, { on := 2, ground := Ground.phase }, { on := 3, ground := Ground.phase }, { on := 4, ground := Ground.phase }, { on := 5, ground := Ground.phase }, { on := 6, ground := Ground.phase }, { on := 7, ground := Ground.phase }, { on := 8, ground := Ground.phase }, { on := 9, ground := Ground.phase }, { on := 10, ground := Ground.phase }], guard := none } : Oper)) rfl (fun K hK => ?_) AllReadyH.nil
              · have c0 := Q5.1.1
                have c1 := Q5.1.2
                have c2 := Q5.2.1
                have c3 := Q5.2.2
                go_simp
                have Q6 := Q5.wrote (x' := B.1) (y' := B.2)
                have P6 := P5.set' (q := kQ) (by omega) (.int .i64 B.1) (.int .i64 B.2)
                refine hK.out _ _ (HST.out _ kQ _ _ (by omega) hH5) (fun hH6 => ?_)
                clear hK K c0 c1 c2 c3
                obtain ⟨w6, hw6⟩ : ∃ w6, w6 = ((w5.setCell ⟨kQ, 0, none⟩ (.int .i64 B.1)).setCell ⟨kQ, 1, none⟩ (.int .i64 B.2)) := ⟨_, rfl⟩
                rw [← hw6] at hH6 P6 Q6 ⊢
                clear hw6
                refine wpAnyH_done (by kernel_rfl) ?_ _
                go_wp2
                go_meet
                case rel => exact ⟨_, _, rfl, rfl, P6.1, Q6.1, hH6.2.2.2.2.2.out⟩
    · go_simp
      have hb1 : Below w0.heap.size w0 (w0.alloc (.cells #[.int .i64 0, .int .i64 0] 25)) := (Below.refl _ _).alloc (Nat.le_refl _) _
      have Q1 := Bz.new w0 0 0 25
      have neQ : N + 1 < w0.heap.size := hH0.2.2.2.2.1
      refine hK.out _ _ (HCL.out _ _ hH0 hb1) (fun hH1 => ?_)
      clear hK K
      obtain ⟨w1, hw1⟩ : ∃ w1, w1 = w0.alloc (.cells #[.int .i64 0, .int .i64 0] 25) := ⟨_, rfl⟩
      rw [← hw1] at hH1 Q1 ⊢
      clear hw1
      generalize w0.heap.size = kQ at *
      refine wpAnyH_ready (rs := [3, 8]) (by kernel_rfl) (by simp) ?_
      refine AllReadyH.cons (o := ({ dst := some 28, op := Op.call { callee := Callee.value (Operand.func 33), args := #[Operand.tmp 26, Operand.tmp 27], argTypes := #[23, 2] }, type := 25, pos := "law.go:64", after := #[{ on := 1, ground := Ground.data }, { on := 2, ground := Ground.data }], guard := none } : Oper)) rfl (fun K hK => ?_) (AllReadyH.cons (o := ({ dst := some 9, op := Op.alloc 25, type := 0, pos := "law.go:64", after := #[], guard := none } : Oper)) rfl (fun K hK => ?_) AllReadyH.nil)
      · go_simp
        go_at_call 33
        refine (cA _).mono ?_
        rintro e w2 ⟨rfl, hb2⟩
        have Q2 := Q1.keep hb2
        refine hK.out _ _ (HCL.out _ _ hH1 hb2) (fun hH2 => ?_)
        clear hK K
        refine wpAnyH_ready (rs := [7, 8]) (by kernel_rfl) (by simp) ?_
        refine AllReadyH.cons (o := ({ dst := some 32, op := Op.call { callee := Callee.value (Operand.func 33), args := #[Operand.tmp 30, Operand.tmp 31], argTypes := #[23, 2] }, type := 25, pos := "law.go:64", after := #[{ on := 5, ground := Ground.data }, { on := 6, ground := Ground.data }, { on := 3, ground := Ground.chain }], guard := none } : Oper)) rfl (fun K hK => ?_) (AllReadyH.cons (o := ({ dst := some 9, op := Op.alloc 25, type := 0, pos := "law.go:64", after := #[], guard := none } : Oper)) rfl (fun K hK => ?_) AllReadyH.nil)
        · go_simp
          go_at_call 33
          refine (cB _).mono ?_
          rintro e w3 ⟨rfl, hb3⟩
          have Q3 := Q2.keep hb3
          refine hK.out _ _ (HCL.out _ _ hH2 hb3) (fun hH3 => ?_)
          clear hK K
          refine wpAnyH_ready (rs := [8]) (by kernel_rfl) (by simp) ?_
          refine AllReadyH.cons (o := ({ dst := some 9, op := Op.alloc 25, type := 0, pos := "law.go:64", after := #[], guard := none } : Oper)) rfl (fun K hK => ?_) AllReadyH.nil
          · go_simp
            have hb4 : Below w3.heap.size w3 (w3.alloc (.cells #[.int .i64 0, .int .i64 0] 25)) := (Below.refl _ _).alloc (Nat.le_refl _) _
            have Q4 := Q3.keep hb4
            have P4 := Bz.new w3 0 0 25
            have neP : N + 1 < w3.heap.size := hH3.2.2.2.2.1
            have neQP : kQ ≠ w3.heap.size := Nat.ne_of_lt Q3.1.lt
            refine hK.out _ _ (HCL.out _ _ hH3 hb4) (fun hH4 => ?_)
            clear hK K
            obtain ⟨w4, hw4⟩ : ∃ w4, w4 = w3.alloc (.cells #[.int .i64 0, .int .i64 0] 25) := ⟨_, rfl⟩
            rw [← hw4] at hH4 Q4 P4 ⊢
            clear hw4
            generalize w3.heap.size = kP at *
            refine wpAnyH_ready (rs := [10]) (by kernel_rfl) (by simp) ?_
            refine AllReadyH.cons (o := ({ dst := none, op := Op.store 25 (Operand.tmp 9) (Operand.tmp 28), type := 0, pos := "law.go:64", after := #[{ on := 8, ground := Ground.data }, { on := 3, ground := Ground.data }, { on := 7, ground := Ground.chain }, { on := 0, ground := Ground.phase }, { on := 1, ground := Ground.phase }, { on := 2, ground := Ground.phase }, { on := 3, ground := Ground.phase }, { on := 4, ground := Ground.textOnly Departure.lateStores }, { on := 5, ground := Ground.textOnly Departure.lateStores }, { on := 6, ground := Ground.textOnly Departure.lateStores }, { on := 7, ground := Ground.textOnly Departure.lateStoresUnsure }, { on := 8, ground := Ground.phase }, { on := 9, ground := Ground.phase }], guard := none } : Oper)) rfl (fun K hK => ?_) AllReadyH.nil
            · have c0 := P4.1.1
              have c1 := P4.1.2
              have c2 := P4.2.1
              have c3 := P4.2.2
              go_simp
              have P5 := P4.wrote (x' := A.1) (y' := A.2)
              have Q5 := Q4.set' (q := kP) (by omega) (.int .i64 A.1) (.int .i64 A.2)
              refine hK.out _ _ (HST.out _ kP _ _ (by omega) hH4) (fun hH5 => ?_)
              clear hK K c0 c1 c2 c3
              obtain ⟨w5, hw5⟩ : ∃ w5, w5 = ((w4.setCell ⟨kP, 0, none⟩ (.int .i64 A.1)).setCell ⟨kP, 1, none⟩ (.int .i64 A.2)) := ⟨_, rfl⟩
              rw [← hw5] at hH5 Q5 P5 ⊢
              clear hw5
              refine wpAnyH_ready (rs := [11]) (by kernel_rfl) (by simp) ?_
              refine AllReadyH.cons (o := ({ dst := none, op := Op.store 25 (Operand.tmp 10) (Operand.tmp 32), type := 0, pos := "law.go:64", after := #[{ on := 9, ground := Ground.data }, { on := 7, ground := Ground.data }, { on := 10, ground := Ground.chain }, { on := 0, ground := Ground.phase }, { on := 1, ground := Ground.phase }, { on := 2, ground := Ground.phase }, { on := 3, ground := Ground.phase }, { on := 4, ground := Ground.phase }, { on := 5, ground := Ground.phase }, { on := 6, ground := Ground.phase }, { on := 7, ground := Ground.phase }, { on := 8, ground := Ground.phase }, { on := 9, ground := Ground.phase }, { on := 10, ground := Ground.phase }], guard := none } : Oper)) rfl (fun K hK => ?_) AllReadyH.nil
              · have c0 := Q5.1.1
                have c1 := Q5.1.2
                have c2 := Q5.2.1
                have c3 := Q5.2.2
                go_simp
                have Q6 := Q5.wrote (x' := B.1) (y' := B.2)
                have P6 := P5.set' (q := kQ) (by omega) (.int .i64 B.1) (.int .i64 B.2)
                refine hK.out _ _ (HST.out _ kQ _ _ (by omega) hH5) (fun hH6 => ?_)
                clear hK K c0 c1 c2 c3
                obtain ⟨w6, hw6⟩ : ∃ w6, w6 = ((w5.setCell ⟨kQ, 0, none⟩ (.int .i64 B.1)).setCell ⟨kQ, 1, none⟩ (.int .i64 B.2)) := ⟨_, rfl⟩
                rw [← hw6] at hH6 Q6 P6 ⊢
                clear hw6
                refine wpAnyH_done (by kernel_rfl) ?_ _
                go_wp2
                go_meet
                case rel => exact ⟨_, _, rfl, rfl, P6.1, Q6.1, hH6.2.2.2.2.2.out⟩
        · go_simp
          have hb3 : Below w2.heap.size w2 (w2.alloc (.cells #[.int .i64 0, .int .i64 0] 25)) := (Below.refl _ _).alloc (Nat.le_refl _) _
          have Q3 := Q2.keep hb3
          have P3 := Bz.new w2 0 0 25
          have neP : N + 1 < w2.heap.size := hH2.2.2.2.2.1
          have neQP : kQ ≠ w2.heap.size := Nat.ne_of_lt Q2.1.lt
          refine hK.out _ _ (HCL.out _ _ hH2 hb3) (fun hH3 => ?_)
          clear hK K
          obtain ⟨w3, hw3⟩ : ∃ w3, w3 = w2.alloc (.cells #[.int .i64 0, .int .i64 0] 25) := ⟨_, rfl⟩
          rw [← hw3] at hH3 Q3 P3 ⊢
          clear hw3
          generalize w2.heap.size = kP at *
          refine wpAnyH_ready (rs := [7]) (by kernel_rfl) (by simp) ?_
          refine AllReadyH.cons (o := ({ dst := some 32, op := Op.call { callee := Callee.value (Operand.func 33), args := #[Operand.tmp 30, Operand.tmp 31], argTypes := #[23, 2] }, type := 25, pos := "law.go:64", after := #[{ on := 5, ground := Ground.data }, { on := 6, ground := Ground.data }, { on := 3, ground := Ground.chain }], guard := none } : Oper)) rfl (fun K hK => ?_) AllReadyH.nil
          · go_simp
            go_at_call 33
            refine (cB _).mono ?_
            rintro e w4 ⟨rfl, hb4⟩
            have Q4 := Q3.keep hb4
            have P4 := P3.keep hb4
            refine hK.out _ _ (HCL.out _ _ hH3 hb4) (fun hH4 => ?_)
            clear hK K
            refine wpAnyH_ready (rs := [10]) (by kernel_rfl) (by simp) ?_
            refine AllReadyH.cons (o := ({ dst := none, op := Op.store 25 (Operand.tmp 9) (Operand.tmp 28), type := 0, pos := "law.go:64", after := #[{ on := 8, ground := Ground.data }, { on := 3, ground := Ground.data }, { on := 7, ground := Ground.chain }, { on := 0, ground := Ground.phase }, { on := 1, ground := Ground.phase }, { on := 2, ground := Ground.phase }, { on := 3, ground := Ground.phase }, { on := 4, ground := Ground.textOnly Departure.lateStores }, { on := 5, ground := Ground.textOnly Departure.lateStores }, { on := 6, ground := Ground.textOnly Departure.lateStores }, { on := 7, ground := Ground.textOnly Departure.lateStoresUnsure }, { on := 8, ground := Ground.phase }, { on := 9, ground := Ground.phase }], guard := none } : Oper)) rfl (fun K hK => ?_) AllReadyH.nil
            · have c0 := P4.1.1
              have c1 := P4.1.2
              have c2 := P4.2.1
              have c3 := P4.2.2
              go_simp
              have P5 := P4.wrote (x' := A.1) (y' := A.2)
              have Q5 := Q4.set' (q := kP) (by omega) (.int .i64 A.1) (.int .i64 A.2)
              refine hK.out _ _ (HST.out _ kP _ _ (by omega) hH4) (fun hH5 => ?_)
              clear hK K c0 c1 c2 c3
              obtain ⟨w5, hw5⟩ : ∃ w5, w5 = ((w4.setCell ⟨kP, 0, none⟩ (.int .i64 A.1)).setCell ⟨kP, 1, none⟩ (.int .i64 A.2)) := ⟨_, rfl⟩
              rw [← hw5] at hH5 Q5 P5 ⊢
              clear hw5
              refine wpAnyH_ready (rs := [11]) (by kernel_rfl) (by simp) ?_
              refine AllReadyH.cons (o := ({ dst := none, op := Op.store 25 (Operand.tmp 10) (Operand.tmp 32), type := 0, pos := "law.go:64", after := #[{ on := 9, ground := Ground.data }, { on := 7, ground := Ground.data }, { on := 10, ground := Ground.chain }, { on := 0, ground := Ground.phase }, { on := 1, ground := Ground.phase }, { on := 2, ground := Ground.phase }, { on := 3, ground := Ground.phase }, { on := 4, ground := Ground.phase }, { on := 5, ground := Ground.phase }, { on := 6, ground := Ground.phase }, { on := 7, ground := Ground.phase }, { on := 8, ground := Ground.phase }, { on := 9, ground := Ground.phase }, { on := 10, ground := Ground.phase }], guard := none } : Oper)) rfl (fun K hK => ?_) AllReadyH.nil
              · have c0 := Q5.1.1
                have c1 := Q5.1.2
                have c2 := Q5.2.1
                have c3 := Q5.2.2
                go_simp
                have Q6 := Q5.wrote (x' := B.1) (y' := B.2)
                have P6 := P5.set' (q := kQ) (by omega) (.int .i64 B.1) (.int .i64 B.2)
                refine hK.out _ _ (HST.out _ kQ _ _ (by omega) hH5) (fun hH6 => ?_)
                clear hK K c0 c1 c2 c3
                obtain ⟨w6, hw6⟩ : ∃ w6, w6 = ((w5.setCell ⟨kQ, 0, none⟩ (.int .i64 B.1)).setCell ⟨kQ, 1, none⟩ (.int .i64 B.2)) := ⟨_, rfl⟩
                rw [← hw6] at hH6 Q6 P6 ⊢
                clear hw6
                refine wpAnyH_done (by kernel_rfl) ?_ _
                go_wp2
                go_meet
                case rel => exact ⟨_, _, rfl, rfl, P6.1, Q6.1, hH6.2.2.2.2.2.out⟩
      · go_simp
        have hb2 : Below w1.heap.size w1 (w1.alloc (.cells #[.int .i64 0, .int .i64 0] 25)) := (Below.refl _ _).alloc (Nat.le_refl _) _
        have Q2 := Q1.keep hb2
        have P2 := Bz.new w1 0 0 25
        have neP : N + 1 < w1.heap.size := hH1.2.2.2.2.1
        have neQP : kQ ≠ w1.heap.size := Nat.ne_of_lt Q1.1.lt
        refine hK.out _ _ (HCL.out _ _ hH1 hb2) (fun hH2 => ?_)
        clear hK K
        obtain ⟨w2, hw2⟩ : ∃ w2, w2 = w1.alloc (.cells #[.int .i64 0, .int .i64 0] 25) := ⟨_, rfl⟩
        rw [← hw2] at hH2 Q2 P2 ⊢
        clear hw2
        generalize w1.heap.size = kP at *
        refine wpAnyH_ready (rs := [3]) (by kernel_rfl) (by simp) ?_
        refine AllReadyH.cons (o := ({ dst := some 28, op := Op.call { callee := Callee.value (Operand.func 33), args := #[Operand.tmp 26, Operand.tmp 27], argTypes := #[23, 2] }, type := 25, pos := "law.go:64", after := #[{ on := 1, ground := Ground.data }, { on := 2, ground := Ground.data }], guard := none } : Oper)) rfl (fun K hK => ?_) AllReadyH.nil
        · go_simp
          go_at_call 33
          refine (cA _).mono ?_
          rintro e w3 ⟨rfl, hb3⟩
          have Q3 := Q2.keep hb3
          have P3 := P2.keep hb3
          refine hK.out _ _ (HCL.out _ _ hH2 hb3) (fun hH3 => ?_)
          clear hK K
          refine wpAnyH_ready (rs := [7]) (by kernel_rfl) (by simp) ?_
          refine AllReadyH.cons (o := ({ dst := some 32, op := Op.call { callee := Callee.value (Operand.func 33), args := #[Operand.tmp 30, Operand.tmp 31], argTypes := #[23, 2] }, type := 25, pos := "law.go:64", after := #[{ on := 5, ground := Ground.data }, { on := 6, ground := Ground.data }, { on := 3, ground := Ground.chain }], guard := none } : Oper)) rfl (fun K hK => ?_) AllReadyH.nil
          · go_simp
            go_at_call 33
            refine (cB _).mono ?_
            rintro e w4 ⟨rfl, hb4⟩
            have Q4 := Q3.keep hb4
            have P4 := P3.keep hb4
            refine hK.out _ _ (HCL.out _ _ hH3 hb4) (fun hH4 => ?_)
            clear hK K
            refine wpAnyH_ready (rs := [10]) (by kernel_rfl) (by simp) ?_
            refine AllReadyH.cons (o := ({ dst := none, op := Op.store 25 (Operand.tmp 9) (Operand.tmp 28), type := 0, pos := "law.go:64", after := #[{ on := 8, ground := Ground.data }, { on := 3, ground := Ground.data }, { on := 7, ground := Ground.chain }, { on := 0, ground := Ground.phase }, { on := 1, ground := Ground.phase }, { on := 2, ground := Ground.phase }, { on := 3, ground := Ground.phase }, { on := 4, ground := Ground.textOnly Departure.lateStores }, { on := 5, ground := Ground.textOnly Departure.lateStores }, { on := 6, ground := Ground.textOnly Departure.lateStores }, { on := 7, ground := Ground.textOnly Departure.lateStoresUnsure }, { on := 8, ground := Ground.phase }, { on := 9, ground := Ground.phase }], guard := none } : Oper)) rfl (fun K hK => ?_) AllReadyH.nil
            · have c0 := P4.1.1
              have c1 := P4.1.2
              have c2 := P4.2.1
              have c3 := P4.2.2
              go_simp
              have P5 := P4.wrote (x' := A.1) (y' := A.2)
              have Q5 := Q4.set' (q := kP) (by omega) (.int .i64 A.1) (.int .i64 A.2)
              refine hK.out _ _ (HST.out _ kP _ _ (by omega) hH4) (fun hH5 => ?_)
              clear hK K c0 c1 c2 c3
              obtain ⟨w5, hw5⟩ : ∃ w5, w5 = ((w4.setCell ⟨kP, 0, none⟩ (.int .i64 A.1)).setCell ⟨kP, 1, none⟩ (.int .i64 A.2)) := ⟨_, rfl⟩
              rw [← hw5] at hH5 Q5 P5 ⊢
              clear hw5
              refine wpAnyH_ready (rs := [11]) (by kernel_rfl) (by simp) ?_
              refine AllReadyH.cons (o := ({ dst := none, op := Op.store 25 (Operand.tmp 10) (Operand.tmp 32), type := 0, pos := "law.go:64", after := #[{ on := 9, ground := Ground.data }, { on := 7, ground := Ground.data }, { on := 10, ground := Ground.chain }, { on := 0, ground := Ground.phase }, { on := 1, ground := Ground.phase }, { on := 2, ground := Ground.phase }, { on := 3, ground := Ground.phase }, { on := 4, ground := Ground.phase }, { on := 5, ground := Ground.phase }, { on := 6, ground := Ground.phase }, { on := 7, ground := Ground.phase }, { on := 8, ground := Ground.phase }, { on := 9, ground := Ground.phase }, { on := 10, ground := Ground.phase }], guard := none } : Oper)) rfl (fun K hK => ?_) AllReadyH.nil
              · have c0 := Q5.1.1
                have c1 := Q5.1.2
                have c2 := Q5.2.1
                have c3 := Q5.2.2
                go_simp
                have Q6 := Q5.wrote (x' := B.1) (y' := B.2)
                have P6 := P5.set' (q := kQ) (by omega) (.int .i64 B.1) (.int .i64 B.2)
                refine hK.out _ _ (HST.out _ kQ _ _ (by omega) hH5) (fun hH6 => ?_)
                clear hK K c0 c1 c2 c3
                obtain ⟨w6, hw6⟩ : ∃ w6, w6 = ((w5.setCell ⟨kQ, 0, none⟩ (.int .i64 B.1)).setCell ⟨kQ, 1, none⟩ (.int .i64 B.2)) := ⟨_, rfl⟩
                rw [← hw6] at hH6 Q6 P6 ⊢
                clear hw6
                refine wpAnyH_done (by kernel_rfl) ?_ _
                go_wp2
                go_meet
                case rel => exact ⟨_, _, rfl, rfl, P6.1, Q6.1, hH6.2.2.2.2.2.out⟩
  case rest =>
    obtain ⟨p, q, rfl, rfl, HH⟩ := hcut
    clear x1 HCL HST cA cB
    have hN := HN.out
    subst hN
    clear HN
    have y0 := HH.out.1.1
    have y1 := HH.out.1.2
    have y2 := HH.out.2.1.1
    have y3 := HH.out.2.1.2
    have kn := one_neg A x sa ia
    have km := one_move A x ia
    have kb := branch_in A x ia
    have k1 := kn.1
    have k2 := hasR_in kn.2
    have k3 := km.1
    have k4 := hasR_in km.2
    have k5 := kb.1
    have k6 := hasR_in kb.2
    clear kn km kb
    by_cases q1 : (arith op x y).2 = true
    · have kt := two_sound op A B x y sa sb ia ib q1
      have k7 := kt.1
      have k8 := hasR_in kt.2
      clear kt ia ib
      go_upto_region 5 with (first | (go_at_call 34; refine (arith_ref _ _ _ _ hx hy).mono ?_; rintro e w' ⟨rfl, h⟩; obtain rfl := h.symm) | (go_at_call 29; refine (two_any _ A B _ sa sb).mono ?_; rintro e wA ⟨rfl, hA⟩))
      go_name_world W4 hW4
      have H4 : Hid (Bx W4 p A.1 A.2 ∧ Bx W4 wA.heap.size (twoP op A B).1.1 (twoP op A B).1.2 ∧ Below w.heap.size w W4) := by
        rw [← hW4]
        have u := HH.out.2.2.trans (hA.mono HH.out.2.2.size)
        exact ⟨(HH.out.1.keep hA).keep ((Below.refl _ _).alloc (Nat.le_refl _) _), Bx.new _ _ _ _, u.alloc u.size _⟩
      clear hW4 hA HH y0 y1 y2 y3
      generalize wA.heap.size = T13 at *
      go_upto_region 7 with (first | (go_at_call 14; refine (told_any _).mono ?_; rintro e wT ⟨rfl, hT⟩; have KT := H4.out.2.1.keep hT; have c0 := KT.1; have c1 := KT.2; clear KT) | (go_at_call 19; refine (has_any _ _ _ _).mono ?_; rintro e w1 ⟨rfl, o1, rfl⟩))
      go_name_world W5 hW5
      have H5 : Hid (Bx W5 p A.1 A.2 ∧ Below w.heap.size w W5) := by
        rw [← hW5]
        have t := H4.out.1.keep hT
        have u := H4.out.2.2.trans (hT.mono H4.out.2.2.size)
        exact ⟨t.keep ((Below.refl _ _).alloc (Nat.le_refl _) _), u.alloc u.size _⟩
      clear hW5 hT H4 c0 c1
      have a0 := H5.out.1.1
      have a1 := H5.out.1.2
      go_upto_region 8 with (go_at_call 27; refine (one_any 3 A _ sa).mono ?_; rintro e wK ⟨rfl, hK⟩)
      go_name_world W7 hW
      have H7 : Hid (Bx W7 p A.1 A.2 ∧ Bx W7 wK.heap.size (oneP 3 A).1.1 (oneP 3 A).1.2 ∧ Below w.heap.size w W7) := by
        rw [← hW]
        have u := H5.out.2.trans (hK.mono H5.out.2.size)
        exact ⟨(H5.out.1.keep hK).keep ((Below.refl _ _).alloc (Nat.le_refl _) _), Bx.new _ _ _ _, u.alloc u.size _⟩
      clear hW hK H5 a0 a1
      generalize wK.heap.size = T15 at *
      have a0 := H7.out.1.1
      have a1 := H7.out.1.2
      go_upto_region 9 with (go_at_call 27; refine (one_any 2 A _ sa).mono ?_; rintro e wK ⟨rfl, hK⟩)
      go_name_world W8 hW
      have H8 : Hid (Bx W8 p A.1 A.2 ∧ Bx W8 T15 (oneP 3 A).1.1 (oneP 3 A).1.2 ∧ Bx W8 wK.heap.size (oneP 2 A).1.1 (oneP 2 A).1.2 ∧ Below w.heap.size w W8) := by
        rw [← hW]
        have u := H7.out.2.2.trans (hK.mono H7.out.2.2.size)
        exact ⟨(H7.out.1.keep hK).keep ((Below.refl _ _).alloc (Nat.le_refl _) _), (H7.out.2.1.keep hK).keep ((Below.refl _ _).alloc (Nat.le_refl _) _), Bx.new _ _ _ _, u.alloc u.size _⟩
      clear hW hK H7 a0 a1
      generalize wK.heap.size = T17 at *
      have a0 := H8.out.1.1
      have a1 := H8.out.1.2
      go_upto_region 10 with (go_at_call 31; refine (branch_any A _ _).mono ?_; rintro e wK ⟨rfl, hK⟩)
      go_name_world W9 hW
      have H9 : Hid (Bx W9 p A.1 A.2 ∧ Bx W9 T15 (oneP 3 A).1.1 (oneP 3 A).1.2 ∧ Bx W9 T17 (oneP 2 A).1.1 (oneP 2 A).1.2 ∧ Bx W9 wK.heap.size (branchP A (x != 0)).1.1 (branchP A (x != 0)).1.2 ∧ Below w.heap.size w W9) := by
        rw [← hW]
        have u := H8.out.2.2.2.trans (hK.mono H8.out.2.2.2.size)
        exact ⟨(H8.out.1.keep hK).keep ((Below.refl _ _).alloc (Nat.le_refl _) _), (H8.out.2.1.keep hK).keep ((Below.refl _ _).alloc (Nat.le_refl _) _), (H8.out.2.2.1.keep hK).keep ((Below.refl _ _).alloc (Nat.le_refl _) _), Bx.new _ _ _ _, u.alloc u.size _⟩
      clear hW hK H8 a0 a1
      generalize wK.heap.size = T19 at *
      have a0 := H9.out.1.1
      have a1 := H9.out.1.2
      have hs : ∀ n m : Nat, n < m → n < m + 1 := fun n m h => by omega
      have b0 := H9.out.2.1.1
      have b1 := H9.out.2.1.2
      have z0 := H9.out.2.1.lt
      have z0' := hs _ _ z0
      have z0'' := hs _ _ z0'
      have b2 := H9.out.2.2.1.1
      have b3 := H9.out.2.2.1.2
      have z1 := H9.out.2.2.1.lt
      have z1' := hs _ _ z1
      have z1'' := hs _ _ z1'
      have b4 := H9.out.2.2.2.1.1
      have b5 := H9.out.2.2.2.1.2
      have z2 := H9.out.2.2.2.1.lt
      have z2' := hs _ _ z2
      have z2'' := hs _ _ z2'
      have bW := H9.out.2.2.2.2
      have bz := bW.size
      go_wp2_with (go_at_call 19; refine (has_any _ _ _ _).mono ?_; rintro e w1 ⟨rfl, o1, rfl⟩)
      go_ret
      exact ⟨rfl, (by repeat (first | exact Below.refl _ _ | (refine Below.drew ?_) | (refine below_drewN ?_ _) | (refine Below.setCell ?_ (by first | omega | (simp; done) | (simp; omega)) _) | (refine Below.alloc ?_ (by first | omega | (simp; done) | (simp; omega)) _) | (refine Below.trans ?_ (Below.mono (by assumption) (by first | omega | (simp; done) | (simp; omega))))))⟩
    · have q1 : (arith op x y).2 = false := by simpa using q1
      clear ia ib
      go_upto_region 5 with (first | (go_at_call 34; refine (arith_ref _ _ _ _ hx hy).mono ?_; rintro e w' ⟨rfl, h⟩; obtain rfl := h.symm) | (go_at_call 29; refine (two_any _ A B _ sa sb).mono ?_; rintro e wA ⟨rfl, hA⟩))
      go_name_world W4 hW4
      have H4 : Hid (Bx W4 p A.1 A.2 ∧ Bx W4 wA.heap.size (twoP op A B).1.1 (twoP op A B).1.2 ∧ Below w.heap.size w W4) := by
        rw [← hW4]
        have u := HH.out.2.2.trans (hA.mono HH.out.2.2.size)
        exact ⟨(HH.out.1.keep hA).keep ((Below.refl _ _).alloc (Nat.le_refl _) _), Bx.new _ _ _ _, u.alloc u.size _⟩
      clear hW4 hA HH y0 y1 y2 y3
      generalize wA.heap.size = T13 at *
      go_upto_region 7 with (first | (go_at_call 14; refine (told_any _).mono ?_; rintro e wT ⟨rfl, hT⟩; have KT := H4.out.2.1.keep hT; have c0 := KT.1; have c1 := KT.2; clear KT) | (go_at_call 19; refine (has_any _ _ _ _).mono ?_; rintro e w1 ⟨rfl, o1, rfl⟩))
      go_name_world W5 hW5
      have H5 : Hid (Bx W5 p A.1 A.2 ∧ Below w.heap.size w W5) := by
        rw [← hW5]
        have t := H4.out.1.keep hT
        have u := H4.out.2.2.trans (hT.mono H4.out.2.2.size)
        exact ⟨t, u⟩
      clear hW5 hT H4 c0 c1
      have a0 := H5.out.1.1
      have a1 := H5.out.1.2
      go_upto_region 8 with (go_at_call 27; refine (one_any 3 A _ sa).mono ?_; rintro e wK ⟨rfl, hK⟩)
      go_name_world W7 hW
      have H7 : Hid (Bx W7 p A.1 A.2 ∧ Bx W7 wK.heap.size (oneP 3 A).1.1 (oneP 3 A).1.2 ∧ Below w.heap.size w W7) := by
        rw [← hW]
        have u := H5.out.2.trans (hK.mono H5.out.2.size)
        exact ⟨(H5.out.1.keep hK).keep ((Below.refl _ _).alloc (Nat.le_refl _) _), Bx.new _ _ _ _, u.alloc u.size _⟩
      clear hW hK H5 a0 a1
      generalize wK.heap.size = T15 at *
      have a0 := H7.out.1.1
      have a1 := H7.out.1.2
      go_upto_region 9 with (go_at_call 27; refine (one_any 2 A _ sa).mono ?_; rintro e wK ⟨rfl, hK⟩)
      go_name_world W8 hW
      have H8 : Hid (Bx W8 p A.1 A.2 ∧ Bx W8 T15 (oneP 3 A).1.1 (oneP 3 A).1.2 ∧ Bx W8 wK.heap.size (oneP 2 A).1.1 (oneP 2 A).1.2 ∧ Below w.heap.size w W8) := by
        rw [← hW]
        have u := H7.out.2.2.trans (hK.mono H7.out.2.2.size)
        exact ⟨(H7.out.1.keep hK).keep ((Below.refl _ _).alloc (Nat.le_refl _) _), (H7.out.2.1.keep hK).keep ((Below.refl _ _).alloc (Nat.le_refl _) _), Bx.new _ _ _ _, u.alloc u.size _⟩
      clear hW hK H7 a0 a1
      generalize wK.heap.size = T17 at *
      have a0 := H8.out.1.1
      have a1 := H8.out.1.2
      go_upto_region 10 with (go_at_call 31; refine (branch_any A _ _).mono ?_; rintro e wK ⟨rfl, hK⟩)
      go_name_world W9 hW
      have H9 : Hid (Bx W9 p A.1 A.2 ∧ Bx W9 T15 (oneP 3 A).1.1 (oneP 3 A).1.2 ∧ Bx W9 T17 (oneP 2 A).1.1 (oneP 2 A).1.2 ∧ Bx W9 wK.heap.size (branchP A (x != 0)).1.1 (branchP A (x != 0)).1.2 ∧ Below w.heap.size w W9) := by
        rw [← hW]
        have u := H8.out.2.2.2.trans (hK.mono H8.out.2.2.2.size)
        exact ⟨(H8.out.1.keep hK).keep ((Below.refl _ _).alloc (Nat.le_refl _) _), (H8.out.2.1.keep hK).keep ((Below.refl _ _).alloc (Nat.le_refl _) _), (H8.out.2.2.1.keep hK).keep ((Below.refl _ _).alloc (Nat.le_refl _) _), Bx.new _ _ _ _, u.alloc u.size _⟩
      clear hW hK H8 a0 a1
      generalize wK.heap.size = T19 at *
      have a0 := H9.out.1.1
      have a1 := H9.out.1.2
      have hs : ∀ n m : Nat, n < m → n < m + 1 := fun n m h => by omega
      have b0 := H9.out.2.1.1
      have b1 := H9.out.2.1.2
      have z0 := H9.out.2.1.lt
      have z0' := hs _ _ z0
      have z0'' := hs _ _ z0'
      have b2 := H9.out.2.2.1.1
      have b3 := H9.out.2.2.1.2
      have z1 := H9.out.2.2.1.lt
      have z1' := hs _ _ z1
      have z1'' := hs _ _ z1'
      have b4 := H9.out.2.2.2.1.1
      have b5 := H9.out.2.2.2.1.2
      have z2 := H9.out.2.2.2.1.lt
      have z2' := hs _ _ z2
      have z2'' := hs _ _ z2'
      have bW := H9.out.2.2.2.2
      have bz := bW.size
      go_wp2_with (go_at_call 19; refine (has_any _ _ _ _).mono ?_; rintro e w1 ⟨rfl, o1, rfl⟩)
      go_ret
      exact ⟨rfl, (by repeat (first | exact Below.refl _ _ | (refine Below.drew ?_) | (refine below_drewN ?_ _) | (refine Below.setCell ?_ (by first | omega | (simp; done) | (simp; omega)) _) | (refine Below.alloc ?_ (by first | omega | (simp; done) | (simp; omega)) _) | (refine Below.trans ?_ (Below.mono (by assumption) (by first | omega | (simp; done) | (simp; omega))))))⟩
end Go.Proofs.Ytpegiljajlljkaa
