import Derived.Test.YthiacdbjlkpfgaaGreatDoorG05
import Derived.Test.YthiacdbjlkpfgaaGreatDoorG16
import Derived.Deep.CutBlock
import Derived.LoopTactic
namespace Go.Proofs.YthiacdbjlkpfgaaGreatDoor
open Go.RowKit
set_option maxRecDepth 100000 in
set_option maxHeartbeats 16000000 in
theorem div_above2 (a b : Int × Int) (w : World) (ha : Sp a) (hb : Sp b) (hA : ¬ (a.1 = -9223372036854775808 ∧ b.1 ≤ -1 ∧ -1 ≤ b.2)) (h1 : ¬ b.1 ≤ -1) (h2 : 1 ≤ b.2) (h3 : b.1 < 1) (hL : ¬ a.1 = -9223372036854775808) : Calls Tryz.prog 92 #[.agg #[.int .i64 a.1, .int .i64 a.2], .agg #[.int .i64 b.1, .int .i64 b.2]] w fun e w' => e = .returned (.tuple #[.agg #[.int .i64 ((quotsP a b).1).1, .int .i64 ((quotsP a b).1).2], .bool (quotsP a b).2]) ∧ Below w.heap.size w w' := by
  have HQ : Hid (quotsP a b = ((lst a.1 [a.2, (a.1.tdiv b.2), (a.2.tdiv b.2)], grt a.1 [a.2, (a.1.tdiv b.2), (a.2.tdiv b.2)]), true)) := by
    unfold Hid quotsP
    rw [if_neg hA, if_neg (by omega), if_neg h1, if_pos h2]
    unfold quoP aboveP mn mx
    have m0 : max b.1 1 = 1 := by omega
    simp only [lst, grt, Prod.mk.injEq, and_true, m0, Int.tdiv_one]
    omega
  have i1 : i64 a.1 := by unfold Sp at ha; unfold i64; omega
  have i2 : i64 a.2 := by unfold Sp at ha; unfold i64; omega
  have u0 : IntKind.i64.wrap a.1 = a.1 := by rw [wrapK]; exact wrap_fit _ (by unfold i64 at i1; omega) (by unfold i64 at i1; omega)
  have v0 : IntKind.i64.wrap a.2 = a.2 := by rw [wrapK]; exact wrap_fit _ (by unfold i64 at i2; omega) (by unfold i64 at i2; omega)
  have n1 : b.2 ≠ 0 := by unfold Sp at hb; omega
  have u1 := quo_wrap a.1 b.2 i1 n1 (by unfold Sp at ha hb; omega)
  have v1 := quo_wrap a.2 b.2 i2 n1 (by unfold Sp at ha hb; omega)
  have hd : (a.1 == -9223372036854775808) = false := by rw [beq_eq_false_iff_ne]; exact hL
  clear hL
  have f1 : decide (b.1 < 0) = false := by simp; omega
  have f2 : decide (0 < b.2) = true := by simp; omega
  clear h1 h2
  clear ha hb i1 i2 hA
  go_enter Tryz.func92, Tryz.ntmps92
  go_upto_region 2 with fail
  go_name_world W hW
  have HX : Hid (D4 w W w.heap.size a b) := by
    rw [← hW]
    exact D4.start w a b
  clear hW
  have b0 := HX.out.xb.1
  have b1 := HX.out.xb.2
  have a0 := HX.out.xa.1
  have a1 := HX.out.xa.2
  obtain ⟨A, hAA⟩ : ∃ A, A = w.heap.size := ⟨_, rfl⟩
  rw [← hAA] at HX b0 b1 a0 a1 ⊢
  have HAA : Hid (A = w.heap.size) := hAA
  clear hAA
  have S0 := St.start W
  have KB : ∀ (wr : World) (v : Value) (ps : List Int), St W wr v ps → Below W.heap.size W wr := fun wr v ps h => h.bel
  go_upto_region 6 with (at_builtin; refine wpList_app2 W _ rfl (.tmp 23) (.tmp 29) rfl _ [] 1 b.2 S0 rfl rfl (Nat.le_of_ble_eq_true rfl) ?_; intro p2 c2 w2 hS2; clear a0 a1 b0 b1; have HY := HX.out.keep (KB _ _ _ hS2); have b0 := HY.xb.1; have b1 := HY.xb.2; have a0 := HY.xa.1; have a1 := HY.xa.2; clear HY)
  obtain ⟨g, rfl, HR⟩ := St.row (n := 1) (ps := [b.2]) hS2
  have HX2 : Hid (D4 w w2 A a b ∧ RowN w2 g [1, b.2]) := ⟨HX.out.keep (KB _ _ _ hS2), HR⟩
  clear HX HR KB S0 hS2
  go_upto_region 10 with fail
  go_name_world W5 hW5
  have HX5 : Hid (D4 w W5 A a b ∧ RowN W5 g [1, b.2]) := by
    rw [← hW5]
    first | exact HX2.out | exact ⟨HX2.out.1.keep (by exact (by repeat (first | exact Below.refl _ _ | (refine Below.drew ?_) | (refine below_drewN ?_ _) | (refine Below.setCell ?_ (by first | omega | (simp; done) | (simp; omega)) _) | (refine Below.alloc ?_ (by first | omega | (simp; done) | (simp; omega)) _) | (refine Below.trans ?_ (Below.mono (by assumption) (by first | omega | (simp; done) | (simp; omega))))))), HX2.out.2.keep (by exact (by repeat (first | exact Below.refl _ _ | (refine Below.drew ?_) | (refine below_drewN ?_ _) | (refine Below.setCell ?_ (by first | omega | (simp; done) | (simp; omega)) _) | (refine Below.alloc ?_ (by first | omega | (simp; done) | (simp; omega)) _) | (refine Below.trans ?_ (Below.mono (by assumption) (by first | omega | (simp; done) | (simp; omega)))))))⟩
  clear hW5 HX2 a0 a1 b0 b1
  have S5 := hide (St.start W5)
  go_wp2_with fail
  go_loopw [7, 8] (fun sl ix wr => (ix = .int .i64 0 ∧ Hid (St W5 wr sl [])) ∨ (ix = .int .i64 1 ∧ Hid (St W5 wr sl [a.1, a.2])) ∨ (ix = .int .i64 2 ∧ Hid (St W5 wr sl [a.1, a.2, (a.1.tdiv b.2), (a.2.tdiv b.2)]))) (fun _ i _ => 2 - (intOf i).toNat)
  case atStart => exact Or.inl ⟨rfl, S5⟩
  case round =>
    clear S5
    rcases hrel with ⟨rfl, hS⟩ | ⟨rfl, hS⟩ | ⟨rfl, hS⟩
    · obtain ⟨a1, c1, rfl⟩ := (hS.out).slice
      have HB : Hid (∀ w2 : World, Below W5.heap.size W5 w2 → (w2.cell? ⟨A, 0, none⟩ = some (.int .i64 a.1) ∧ w2.cell? ⟨A, 1, none⟩ = some (.int .i64 a.2) ∧ w2.cell? ⟨g, 0, none⟩ = some (.int .i64 1))) := fun w2 hb => by
        have x := HX5.out.1.xa.keep hb
        exact ⟨x.1, x.2, (HX5.out.2.keep hb) 0 1 rfl⟩
      go_upto_region 14 with fail
      refine wp_region_held_drew (S := fun w' => w'.cell? ⟨A, 0, none⟩ = some (.int .i64 a.1) ∧ w'.cell? ⟨A, 1, none⟩ = some (.int .i64 a.2) ∧ w'.cell? ⟨g, 0, none⟩ = some (.int .i64 1)) (by kernel_rfl) (HB.out _ hS.out.bel.drew) (fun hH0 => ?_)
      refine wpAnyH_take (i := 0) (oi := ({ dst := some 49, op := Op.move (Operand.tmp 7), type := 82, pos := "ref.go:115", after := #[], guard := none } : Oper)) (v := ?_) rfl (by kernel_rfl) (by kernel_rfl) (by kernel_rfl) (fun _ _ _ h => h) (Or.inl ⟨by rfl, ?_⟩) (by assumption) ?_
      rotate_left
      · (intro wz hSw; (try dsimp only at hSw); go_simp; try with_reducible rfl)
      simp only [Act.put, List.setIfInBounds_toArray, List.set_cons_zero, List.set_cons_succ]
      refine wpAnyH_take (i := 1) (oi := ({ dst := some 50, op := Op.fieldAddr 25 (Operand.tmp 2) 0, type := 0, pos := "ref.go:115", after := #[], guard := none } : Oper)) (v := ?_) rfl (by kernel_rfl) (by kernel_rfl) (by kernel_rfl) (fun _ _ _ h => h) (Or.inl ⟨by rfl, ?_⟩) (by assumption) ?_
      rotate_left
      · (intro wz hSw; (try dsimp only at hSw); go_simp; try with_reducible rfl)
      simp only [Act.put, List.setIfInBounds_toArray, List.set_cons_zero, List.set_cons_succ]
      refine wpAnyH_take (i := 2) (oi := ({ dst := some 51, op := Op.load 2 (Operand.tmp 50), type := 2, pos := "ref.go:115", after := #[{ on := 1, ground := Ground.data }], guard := none } : Oper)) (v := ?_) rfl (by kernel_rfl) (by kernel_rfl) (by kernel_rfl) (fun _ _ _ h => h) (Or.inl ⟨by rfl, ?_⟩) (by assumption) ?_
      rotate_left
      · (intro wz hSw; (try dsimp only at hSw); go_simp; try with_reducible rfl)
      simp only [Act.put, List.setIfInBounds_toArray, List.set_cons_zero, List.set_cons_succ]
      refine wpAnyH_take (i := 3) (oi := ({ dst := some 52, op := Op.move (Operand.tmp 6), type := 82, pos := "ref.go:115", after := #[], guard := none } : Oper)) (v := ?_) rfl (by kernel_rfl) (by kernel_rfl) (by kernel_rfl) (fun _ _ _ h => h) (Or.inl ⟨by rfl, ?_⟩) (by assumption) ?_
      rotate_left
      · (intro wz hSw; (try dsimp only at hSw); go_simp; try with_reducible rfl)
      simp only [Act.put, List.setIfInBounds_toArray, List.set_cons_zero, List.set_cons_succ]
      refine wpAnyH_take (i := 4) (oi := ({ dst := some 53, op := Op.move (Operand.tmp 8), type := 3, pos := "ref.go:115", after := #[], guard := none } : Oper)) (v := ?_) rfl (by kernel_rfl) (by kernel_rfl) (by kernel_rfl) (fun _ _ _ h => h) (Or.inl ⟨by rfl, ?_⟩) (by assumption) ?_
      rotate_left
      · (intro wz hSw; (try dsimp only at hSw); go_simp; try with_reducible rfl)
      simp only [Act.put, List.setIfInBounds_toArray, List.set_cons_zero, List.set_cons_succ]
      refine wpAnyH_take (i := 5) (oi := ({ dst := some 54, op := Op.indexAddr 82 (Operand.tmp 52) (Operand.tmp 53), type := 0, pos := "ref.go:115", after := #[{ on := 3, ground := Ground.data }, { on := 4, ground := Ground.data }], guard := none } : Oper)) (v := ?_) rfl (by kernel_rfl) (by kernel_rfl) (by kernel_rfl) (fun _ _ _ h => h) (Or.inl ⟨by rfl, ?_⟩) (by assumption) ?_
      rotate_left
      · (intro wz hSw; (try dsimp only at hSw); go_simp; try with_reducible rfl)
      simp only [Act.put, List.setIfInBounds_toArray, List.set_cons_zero, List.set_cons_succ]
      refine wpAnyH_take (i := 6) (oi := ({ dst := some 55, op := Op.load 2 (Operand.tmp 54), type := 2, pos := "ref.go:115", after := #[{ on := 5, ground := Ground.data }], guard := none } : Oper)) (v := ?_) rfl (by kernel_rfl) (by kernel_rfl) (by kernel_rfl) (fun _ _ _ h => h) (Or.inl ⟨by rfl, ?_⟩) (by assumption) ?_
      rotate_left
      · (intro wz hSw; (try dsimp only at hSw); go_simp; try with_reducible rfl)
      simp only [Act.put, List.setIfInBounds_toArray, List.set_cons_zero, List.set_cons_succ]
      refine wpAnyH_take (i := 7) (oi := ({ dst := some 56, op := Op.binOp BinOp.quo 2 (Operand.tmp 51) (Operand.tmp 55) 2, type := 2, pos := "ref.go:115", after := #[{ on := 2, ground := Ground.data }, { on := 6, ground := Ground.data }], guard := none } : Oper)) (v := ?_) rfl (by kernel_rfl) (by kernel_rfl) (by kernel_rfl) (fun _ _ _ h => h) (Or.inl ⟨by rfl, ?_⟩) (by assumption) ?_
      rotate_left
      · (intro wz hSw; (try dsimp only at hSw); go_simp; try with_reducible rfl)
      simp only [Act.put, List.setIfInBounds_toArray, List.set_cons_zero, List.set_cons_succ]
      refine wpAnyH_take (i := 8) (oi := ({ dst := some 57, op := Op.fieldAddr 25 (Operand.tmp 2) 1, type := 0, pos := "ref.go:115", after := #[], guard := none } : Oper)) (v := ?_) rfl (by kernel_rfl) (by kernel_rfl) (by kernel_rfl) (fun _ _ _ h => h) (Or.inl ⟨by rfl, ?_⟩) (by assumption) ?_
      rotate_left
      · (intro wz hSw; (try dsimp only at hSw); go_simp; try with_reducible rfl)
      simp only [Act.put, List.setIfInBounds_toArray, List.set_cons_zero, List.set_cons_succ]
      refine wpAnyH_take (i := 9) (oi := ({ dst := some 58, op := Op.load 2 (Operand.tmp 57), type := 2, pos := "ref.go:115", after := #[{ on := 8, ground := Ground.data }], guard := none } : Oper)) (v := ?_) rfl (by kernel_rfl) (by kernel_rfl) (by kernel_rfl) (fun _ _ _ h => h) (Or.inl ⟨by rfl, ?_⟩) (by assumption) ?_
      rotate_left
      · (intro wz hSw; (try dsimp only at hSw); go_simp; try with_reducible rfl)
      simp only [Act.put, List.setIfInBounds_toArray, List.set_cons_zero, List.set_cons_succ]
      refine wpAnyH_take (i := 10) (oi := ({ dst := some 59, op := Op.move (Operand.tmp 6), type := 82, pos := "ref.go:115", after := #[], guard := none } : Oper)) (v := ?_) rfl (by kernel_rfl) (by kernel_rfl) (by kernel_rfl) (fun _ _ _ h => h) (Or.inl ⟨by rfl, ?_⟩) (by assumption) ?_
      rotate_left
      · (intro wz hSw; (try dsimp only at hSw); go_simp; try with_reducible rfl)
      simp only [Act.put, List.setIfInBounds_toArray, List.set_cons_zero, List.set_cons_succ]
      refine wpAnyH_take (i := 11) (oi := ({ dst := some 60, op := Op.move (Operand.tmp 8), type := 3, pos := "ref.go:115", after := #[], guard := none } : Oper)) (v := ?_) rfl (by kernel_rfl) (by kernel_rfl) (by kernel_rfl) (fun _ _ _ h => h) (Or.inl ⟨by rfl, ?_⟩) (by assumption) ?_
      rotate_left
      · (intro wz hSw; (try dsimp only at hSw); go_simp; try with_reducible rfl)
      simp only [Act.put, List.setIfInBounds_toArray, List.set_cons_zero, List.set_cons_succ]
      refine wpAnyH_take (i := 12) (oi := ({ dst := some 61, op := Op.indexAddr 82 (Operand.tmp 59) (Operand.tmp 60), type := 0, pos := "ref.go:115", after := #[{ on := 10, ground := Ground.data }, { on := 11, ground := Ground.data }], guard := none } : Oper)) (v := ?_) rfl (by kernel_rfl) (by kernel_rfl) (by kernel_rfl) (fun _ _ _ h => h) (Or.inl ⟨by rfl, ?_⟩) (by assumption) ?_
      rotate_left
      · (intro wz hSw; (try dsimp only at hSw); go_simp; try with_reducible rfl)
      simp only [Act.put, List.setIfInBounds_toArray, List.set_cons_zero, List.set_cons_succ]
      refine wpAnyH_take (i := 13) (oi := ({ dst := some 62, op := Op.load 2 (Operand.tmp 61), type := 2, pos := "ref.go:115", after := #[{ on := 12, ground := Ground.data }], guard := none } : Oper)) (v := ?_) rfl (by kernel_rfl) (by kernel_rfl) (by kernel_rfl) (fun _ _ _ h => h) (Or.inl ⟨by rfl, ?_⟩) (by assumption) ?_
      rotate_left
      · (intro wz hSw; (try dsimp only at hSw); go_simp; try with_reducible rfl)
      simp only [Act.put, List.setIfInBounds_toArray, List.set_cons_zero, List.set_cons_succ]
      refine wpAnyH_take (i := 14) (oi := ({ dst := some 63, op := Op.binOp BinOp.quo 2 (Operand.tmp 58) (Operand.tmp 62) 2, type := 2, pos := "ref.go:115", after := #[{ on := 9, ground := Ground.data }, { on := 13, ground := Ground.data }], guard := none } : Oper)) (v := ?_) rfl (by kernel_rfl) (by kernel_rfl) (by kernel_rfl) (fun _ _ _ h => h) (Or.inl ⟨by rfl, ?_⟩) (by assumption) ?_
      rotate_left
      · (intro wz hSw; (try dsimp only at hSw); go_simp; try with_reducible rfl)
      simp only [Act.put, List.setIfInBounds_toArray, List.set_cons_zero, List.set_cons_succ]
      refine wpAnyH_ready (rs := [15]) (by kernel_rfl) (by simp) ?_
      refine AllReadyH.cons (o := ({ dst := some 64, op := Op.buildSlice 82 2 #[(0, Operand.tmp 56), (1, Operand.tmp 63)], type := 82, pos := "ref.go:115", after := #[{ on := 7, ground := Ground.data }, { on := 14, ground := Ground.data }], guard := none } : Oper)) rfl (fun K hK => ?_) AllReadyH.nil
      go_simp
      refine hK.out _ _ (HB.out _ (hS.out.bel.drew.alloc (by have := hS.out.bel.size; simp; omega) _)) (fun _ => ?_)
      clear hK K hH0
      refine wpAnyH_ready (rs := [16]) (by kernel_rfl) (by simp) ?_
      refine AllReadyH.cons (o := ({ dst := some 65, op := Op.call { callee := Callee.builtin Builtin.append, args := #[Operand.tmp 49, Operand.tmp 64], argTypes := #[82, 82] }, type := 82, pos := "ref.go:115", after := #[{ on := 0, ground := Ground.data }, { on := 15, ground := Ground.data }], guard := none } : Oper)) rfl (fun K hK => ?_) AllReadyH.nil
      refine wp_app2 W5 wr.drew (.tmp 49) (.tmp 64) rfl _ [] a.1 a.2 ⟨hS.out.own, hS.out.bel.drew⟩ rfl rfl (Nat.le_of_ble_eq_true rfl) ?_
      intro p3 c3 w3 hS3
      refine hK.out _ _ (HB.out _ hS3.bel) (fun hH0 => ?_)
      clear hK K
      replace hS3 := hide hS3
      refine wpAnyH_take (i := 17) (oi := ({ dst := some 7, op := Op.assign (Operand.tmp 65), type := 82, pos := "ref.go:115", after := #[{ on := 16, ground := Ground.data }, { on := 16, ground := Ground.chain }, { on := 0, ground := Ground.phase }, { on := 1, ground := Ground.phase }, { on := 2, ground := Ground.phase }, { on := 3, ground := Ground.phase }, { on := 4, ground := Ground.phase }, { on := 5, ground := Ground.phase }, { on := 6, ground := Ground.phase }, { on := 7, ground := Ground.phase }, { on := 8, ground := Ground.phase }, { on := 9, ground := Ground.phase }, { on := 10, ground := Ground.phase }, { on := 11, ground := Ground.phase }, { on := 12, ground := Ground.phase }, { on := 13, ground := Ground.phase }, { on := 14, ground := Ground.phase }, { on := 15, ground := Ground.phase }, { on := 16, ground := Ground.phase }], guard := none } : Oper)) (v := ?_) rfl (by kernel_rfl) (by kernel_rfl) (by kernel_rfl) (fun _ _ _ h => h) (Or.inl ⟨by rfl, ?_⟩) (by assumption) ?_
      rotate_left
      · (intro wz hSw; (try dsimp only at hSw); go_simp; try with_reducible rfl)
      simp only [Act.put, List.setIfInBounds_toArray, List.set_cons_zero, List.set_cons_succ]
      refine wpAnyH_done (by kernel_rfl) ?_ _
      go_wp2_with fail
      go_round
      case rel => exact Or.inr (Or.inl ⟨rfl, hS3.out⟩)
      case measure => simp [intOf]
    · obtain ⟨a1, c1, rfl⟩ := (hS.out).slice
      have HB : Hid (∀ w2 : World, Below W5.heap.size W5 w2 → (w2.cell? ⟨A, 0, none⟩ = some (.int .i64 a.1) ∧ w2.cell? ⟨A, 1, none⟩ = some (.int .i64 a.2) ∧ w2.cell? ⟨g, 1, none⟩ = some (.int .i64 b.2))) := fun w2 hb => by
        have x := HX5.out.1.xa.keep hb
        exact ⟨x.1, x.2, (HX5.out.2.keep hb) 1 b.2 rfl⟩
      go_upto_region 14 with fail
      refine wp_region_held_drew (S := fun w' => w'.cell? ⟨A, 0, none⟩ = some (.int .i64 a.1) ∧ w'.cell? ⟨A, 1, none⟩ = some (.int .i64 a.2) ∧ w'.cell? ⟨g, 1, none⟩ = some (.int .i64 b.2)) (by kernel_rfl) (HB.out _ hS.out.bel.drew) (fun hH0 => ?_)
      refine wpAnyH_take (i := 0) (oi := ({ dst := some 49, op := Op.move (Operand.tmp 7), type := 82, pos := "ref.go:115", after := #[], guard := none } : Oper)) (v := ?_) rfl (by kernel_rfl) (by kernel_rfl) (by kernel_rfl) (fun _ _ _ h => h) (Or.inl ⟨by rfl, ?_⟩) (by assumption) ?_
      rotate_left
      · (intro wz hSw; (try dsimp only at hSw); go_simp; try with_reducible rfl)
      simp only [Act.put, List.setIfInBounds_toArray, List.set_cons_zero, List.set_cons_succ]
      refine wpAnyH_take (i := 1) (oi := ({ dst := some 50, op := Op.fieldAddr 25 (Operand.tmp 2) 0, type := 0, pos := "ref.go:115", after := #[], guard := none } : Oper)) (v := ?_) rfl (by kernel_rfl) (by kernel_rfl) (by kernel_rfl) (fun _ _ _ h => h) (Or.inl ⟨by rfl, ?_⟩) (by assumption) ?_
      rotate_left
      · (intro wz hSw; (try dsimp only at hSw); go_simp; try with_reducible rfl)
      simp only [Act.put, List.setIfInBounds_toArray, List.set_cons_zero, List.set_cons_succ]
      refine wpAnyH_take (i := 2) (oi := ({ dst := some 51, op := Op.load 2 (Operand.tmp 50), type := 2, pos := "ref.go:115", after := #[{ on := 1, ground := Ground.data }], guard := none } : Oper)) (v := ?_) rfl (by kernel_rfl) (by kernel_rfl) (by kernel_rfl) (fun _ _ _ h => h) (Or.inl ⟨by rfl, ?_⟩) (by assumption) ?_
      rotate_left
      · (intro wz hSw; (try dsimp only at hSw); go_simp; try with_reducible rfl)
      simp only [Act.put, List.setIfInBounds_toArray, List.set_cons_zero, List.set_cons_succ]
      refine wpAnyH_take (i := 3) (oi := ({ dst := some 52, op := Op.move (Operand.tmp 6), type := 82, pos := "ref.go:115", after := #[], guard := none } : Oper)) (v := ?_) rfl (by kernel_rfl) (by kernel_rfl) (by kernel_rfl) (fun _ _ _ h => h) (Or.inl ⟨by rfl, ?_⟩) (by assumption) ?_
      rotate_left
      · (intro wz hSw; (try dsimp only at hSw); go_simp; try with_reducible rfl)
      simp only [Act.put, List.setIfInBounds_toArray, List.set_cons_zero, List.set_cons_succ]
      refine wpAnyH_take (i := 4) (oi := ({ dst := some 53, op := Op.move (Operand.tmp 8), type := 3, pos := "ref.go:115", after := #[], guard := none } : Oper)) (v := ?_) rfl (by kernel_rfl) (by kernel_rfl) (by kernel_rfl) (fun _ _ _ h => h) (Or.inl ⟨by rfl, ?_⟩) (by assumption) ?_
      rotate_left
      · (intro wz hSw; (try dsimp only at hSw); go_simp; try with_reducible rfl)
      simp only [Act.put, List.setIfInBounds_toArray, List.set_cons_zero, List.set_cons_succ]
      refine wpAnyH_take (i := 5) (oi := ({ dst := some 54, op := Op.indexAddr 82 (Operand.tmp 52) (Operand.tmp 53), type := 0, pos := "ref.go:115", after := #[{ on := 3, ground := Ground.data }, { on := 4, ground := Ground.data }], guard := none } : Oper)) (v := ?_) rfl (by kernel_rfl) (by kernel_rfl) (by kernel_rfl) (fun _ _ _ h => h) (Or.inl ⟨by rfl, ?_⟩) (by assumption) ?_
      rotate_left
      · (intro wz hSw; (try dsimp only at hSw); go_simp; try with_reducible rfl)
      simp only [Act.put, List.setIfInBounds_toArray, List.set_cons_zero, List.set_cons_succ]
      refine wpAnyH_take (i := 6) (oi := ({ dst := some 55, op := Op.load 2 (Operand.tmp 54), type := 2, pos := "ref.go:115", after := #[{ on := 5, ground := Ground.data }], guard := none } : Oper)) (v := ?_) rfl (by kernel_rfl) (by kernel_rfl) (by kernel_rfl) (fun _ _ _ h => h) (Or.inl ⟨by rfl, ?_⟩) (by assumption) ?_
      rotate_left
      · (intro wz hSw; (try dsimp only at hSw); go_simp; try with_reducible rfl)
      simp only [Act.put, List.setIfInBounds_toArray, List.set_cons_zero, List.set_cons_succ]
      refine wpAnyH_take (i := 7) (oi := ({ dst := some 56, op := Op.binOp BinOp.quo 2 (Operand.tmp 51) (Operand.tmp 55) 2, type := 2, pos := "ref.go:115", after := #[{ on := 2, ground := Ground.data }, { on := 6, ground := Ground.data }], guard := none } : Oper)) (v := ?_) rfl (by kernel_rfl) (by kernel_rfl) (by kernel_rfl) (fun _ _ _ h => h) (Or.inl ⟨by rfl, ?_⟩) (by assumption) ?_
      rotate_left
      · (intro wz hSw; (try dsimp only at hSw); go_simp; try with_reducible rfl)
      simp only [Act.put, List.setIfInBounds_toArray, List.set_cons_zero, List.set_cons_succ]
      refine wpAnyH_take (i := 8) (oi := ({ dst := some 57, op := Op.fieldAddr 25 (Operand.tmp 2) 1, type := 0, pos := "ref.go:115", after := #[], guard := none } : Oper)) (v := ?_) rfl (by kernel_rfl) (by kernel_rfl) (by kernel_rfl) (fun _ _ _ h => h) (Or.inl ⟨by rfl, ?_⟩) (by assumption) ?_
      rotate_left
      · (intro wz hSw; (try dsimp only at hSw); go_simp; try with_reducible rfl)
      simp only [Act.put, List.setIfInBounds_toArray, List.set_cons_zero, List.set_cons_succ]
      refine wpAnyH_take (i := 9) (oi := ({ dst := some 58, op := Op.load 2 (Operand.tmp 57), type := 2, pos := "ref.go:115", after := #[{ on := 8, ground := Ground.data }], guard := none } : Oper)) (v := ?_) rfl (by kernel_rfl) (by kernel_rfl) (by kernel_rfl) (fun _ _ _ h => h) (Or.inl ⟨by rfl, ?_⟩) (by assumption) ?_
      rotate_left
      · (intro wz hSw; (try dsimp only at hSw); go_simp; try with_reducible rfl)
      simp only [Act.put, List.setIfInBounds_toArray, List.set_cons_zero, List.set_cons_succ]
      refine wpAnyH_take (i := 10) (oi := ({ dst := some 59, op := Op.move (Operand.tmp 6), type := 82, pos := "ref.go:115", after := #[], guard := none } : Oper)) (v := ?_) rfl (by kernel_rfl) (by kernel_rfl) (by kernel_rfl) (fun _ _ _ h => h) (Or.inl ⟨by rfl, ?_⟩) (by assumption) ?_
      rotate_left
      · (intro wz hSw; (try dsimp only at hSw); go_simp; try with_reducible rfl)
      simp only [Act.put, List.setIfInBounds_toArray, List.set_cons_zero, List.set_cons_succ]
      refine wpAnyH_take (i := 11) (oi := ({ dst := some 60, op := Op.move (Operand.tmp 8), type := 3, pos := "ref.go:115", after := #[], guard := none } : Oper)) (v := ?_) rfl (by kernel_rfl) (by kernel_rfl) (by kernel_rfl) (fun _ _ _ h => h) (Or.inl ⟨by rfl, ?_⟩) (by assumption) ?_
      rotate_left
      · (intro wz hSw; (try dsimp only at hSw); go_simp; try with_reducible rfl)
      simp only [Act.put, List.setIfInBounds_toArray, List.set_cons_zero, List.set_cons_succ]
      refine wpAnyH_take (i := 12) (oi := ({ dst := some 61, op := Op.indexAddr 82 (Operand.tmp 59) (Operand.tmp 60), type := 0, pos := "ref.go:115", after := #[{ on := 10, ground := Ground.data }, { on := 11, ground := Ground.data }], guard := none } : Oper)) (v := ?_) rfl (by kernel_rfl) (by kernel_rfl) (by kernel_rfl) (fun _ _ _ h => h) (Or.inl ⟨by rfl, ?_⟩) (by assumption) ?_
      rotate_left
      · (intro wz hSw; (try dsimp only at hSw); go_simp; try with_reducible rfl)
      simp only [Act.put, List.setIfInBounds_toArray, List.set_cons_zero, List.set_cons_succ]
      refine wpAnyH_take (i := 13) (oi := ({ dst := some 62, op := Op.load 2 (Operand.tmp 61), type := 2, pos := "ref.go:115", after := #[{ on := 12, ground := Ground.data }], guard := none } : Oper)) (v := ?_) rfl (by kernel_rfl) (by kernel_rfl) (by kernel_rfl) (fun _ _ _ h => h) (Or.inl ⟨by rfl, ?_⟩) (by assumption) ?_
      rotate_left
      · (intro wz hSw; (try dsimp only at hSw); go_simp; try with_reducible rfl)
      simp only [Act.put, List.setIfInBounds_toArray, List.set_cons_zero, List.set_cons_succ]
      refine wpAnyH_take (i := 14) (oi := ({ dst := some 63, op := Op.binOp BinOp.quo 2 (Operand.tmp 58) (Operand.tmp 62) 2, type := 2, pos := "ref.go:115", after := #[{ on := 9, ground := Ground.data }, { on := 13, ground := Ground.data }], guard := none } : Oper)) (v := ?_) rfl (by kernel_rfl) (by kernel_rfl) (by kernel_rfl) (fun _ _ _ h => h) (Or.inl ⟨by rfl, ?_⟩) (by assumption) ?_
      rotate_left
      · (intro wz hSw; (try dsimp only at hSw); go_simp; try with_reducible rfl)
      simp only [Act.put, List.setIfInBounds_toArray, List.set_cons_zero, List.set_cons_succ]
      refine wpAnyH_ready (rs := [15]) (by kernel_rfl) (by simp) ?_
      refine AllReadyH.cons (o := ({ dst := some 64, op := Op.buildSlice 82 2 #[(0, Operand.tmp 56), (1, Operand.tmp 63)], type := 82, pos := "ref.go:115", after := #[{ on := 7, ground := Ground.data }, { on := 14, ground := Ground.data }], guard := none } : Oper)) rfl (fun K hK => ?_) AllReadyH.nil
      go_simp
      refine hK.out _ _ (HB.out _ (hS.out.bel.drew.alloc (by have := hS.out.bel.size; simp; omega) _)) (fun _ => ?_)
      clear hK K hH0
      refine wpAnyH_ready (rs := [16]) (by kernel_rfl) (by simp) ?_
      refine AllReadyH.cons (o := ({ dst := some 65, op := Op.call { callee := Callee.builtin Builtin.append, args := #[Operand.tmp 49, Operand.tmp 64], argTypes := #[82, 82] }, type := 82, pos := "ref.go:115", after := #[{ on := 0, ground := Ground.data }, { on := 15, ground := Ground.data }], guard := none } : Oper)) rfl (fun K hK => ?_) AllReadyH.nil
      refine wp_app2 W5 wr.drew (.tmp 49) (.tmp 64) rfl _ [a.1, a.2] (a.1.tdiv b.2) (a.2.tdiv b.2) ⟨hS.out.own, hS.out.bel.drew⟩ rfl rfl (Nat.le_of_ble_eq_true rfl) ?_
      intro p3 c3 w3 hS3
      refine hK.out _ _ (HB.out _ hS3.bel) (fun hH0 => ?_)
      clear hK K
      replace hS3 := hide hS3
      refine wpAnyH_take (i := 17) (oi := ({ dst := some 7, op := Op.assign (Operand.tmp 65), type := 82, pos := "ref.go:115", after := #[{ on := 16, ground := Ground.data }, { on := 16, ground := Ground.chain }, { on := 0, ground := Ground.phase }, { on := 1, ground := Ground.phase }, { on := 2, ground := Ground.phase }, { on := 3, ground := Ground.phase }, { on := 4, ground := Ground.phase }, { on := 5, ground := Ground.phase }, { on := 6, ground := Ground.phase }, { on := 7, ground := Ground.phase }, { on := 8, ground := Ground.phase }, { on := 9, ground := Ground.phase }, { on := 10, ground := Ground.phase }, { on := 11, ground := Ground.phase }, { on := 12, ground := Ground.phase }, { on := 13, ground := Ground.phase }, { on := 14, ground := Ground.phase }, { on := 15, ground := Ground.phase }, { on := 16, ground := Ground.phase }], guard := none } : Oper)) (v := ?_) rfl (by kernel_rfl) (by kernel_rfl) (by kernel_rfl) (fun _ _ _ h => h) (Or.inl ⟨by rfl, ?_⟩) (by assumption) ?_
      rotate_left
      · (intro wz hSw; (try dsimp only at hSw); go_simp; try with_reducible rfl)
      simp only [Act.put, List.setIfInBounds_toArray, List.set_cons_zero, List.set_cons_succ]
      refine wpAnyH_done (by kernel_rfl) ?_ _
      go_wp2_with fail
      go_round
      case rel => exact Or.inr (Or.inr (⟨rfl, hS3.out⟩))
      case measure => simp [intOf]
    · obtain ⟨a1, c1, rfl⟩ := (hS.out).slice
      obtain ⟨g2, rfl, HR⟩ := St.row (n := a.1) (ps := [a.2, (a.1.tdiv b.2), (a.2.tdiv b.2)]) hS.out
      have HY := HX5.out.1.keep hS.out.bel
      have HR := hide HR
      have HY := hide HY
      clear hS HX5
      go_wp2_with (go_at_call 89; refine (hull_yes g2 _ a.1 [a.2, (a.1.tdiv b.2), (a.2.tdiv b.2)] _ HR.out (Nat.le_of_ble_eq_true rfl)).mono ?_; rintro e wQ ⟨rfl, hbQ⟩; have KQ := HY.out.keep hbQ; have r0 := KQ.xr.1.1; have r1 := KQ.xr.1.2; have r2 := KQ.xr.2.1; have r3 := KQ.xr.2.2; have hWQ := KQ.bel; clear KQ hbQ)
      clear HR HY
      refine bodyPost_ret (by simp [results, Tryz.results92, go_sem, *]; try rfl) rfl ⟨?_, by rw [← HAA.out]; exact (by repeat (first | assumption | (refine Below.drew ?_) | (refine below_drewN ?_ _) | (refine Below.setCell ?_ (by first | omega | (simp; omega)) _) | (refine Below.alloc ?_ (by first | omega | (simp; omega)) _)))⟩
      rw [HQ.out]
set_option maxRecDepth 100000 in
set_option maxHeartbeats 16000000 in
theorem div_above2L (a b : Int × Int) (w : World) (ha : Sp a) (hb : Sp b) (hA : ¬ (a.1 = -9223372036854775808 ∧ b.1 ≤ -1 ∧ -1 ≤ b.2)) (h1 : ¬ b.1 ≤ -1) (h2 : 1 ≤ b.2) (h3 : b.1 < 1) (hL : a.1 = -9223372036854775808) : Calls Tryz.prog 92 #[.agg #[.int .i64 a.1, .int .i64 a.2], .agg #[.int .i64 b.1, .int .i64 b.2]] w fun e w' => e = .returned (.tuple #[.agg #[.int .i64 ((quotsP a b).1).1, .int .i64 ((quotsP a b).1).2], .bool (quotsP a b).2]) ∧ Below w.heap.size w w' := by
  have HQ : Hid (quotsP a b = ((lst a.1 [a.2, (a.1.tdiv b.2), (a.2.tdiv b.2)], grt a.1 [a.2, (a.1.tdiv b.2), (a.2.tdiv b.2)]), true)) := by
    unfold Hid quotsP
    rw [if_neg hA, if_neg (by omega), if_neg h1, if_pos h2]
    unfold quoP aboveP mn mx
    have m0 : max b.1 1 = 1 := by omega
    simp only [lst, grt, Prod.mk.injEq, and_true, m0, Int.tdiv_one]
    omega
  have i1 : i64 a.1 := by unfold Sp at ha; unfold i64; omega
  have i2 : i64 a.2 := by unfold Sp at ha; unfold i64; omega
  have u0 : IntKind.i64.wrap a.1 = a.1 := by rw [wrapK]; exact wrap_fit _ (by unfold i64 at i1; omega) (by unfold i64 at i1; omega)
  have v0 : IntKind.i64.wrap a.2 = a.2 := by rw [wrapK]; exact wrap_fit _ (by unfold i64 at i2; omega) (by unfold i64 at i2; omega)
  have n1 : b.2 ≠ 0 := by unfold Sp at hb; omega
  have u1 := quo_wrap a.1 b.2 i1 n1 (by unfold Sp at ha hb; omega)
  have v1 := quo_wrap a.2 b.2 i2 n1 (by unfold Sp at ha hb; omega)
  have hh : hasR b.1 b.2 (-1) = false := by
    unfold hasR
    rw [Bool.and_eq_false_iff, decide_eq_false_iff_not, decide_eq_false_iff_not]
    omega
  have hd : (a.1 == -9223372036854775808) = true := by rw [hL]; rfl
  clear hL
  have f1 : decide (b.1 < 0) = false := by simp; omega
  have f2 : decide (0 < b.2) = true := by simp; omega
  clear h1 h2
  clear ha hb i1 i2 hA
  go_enter Tryz.func92, Tryz.ntmps92
  go_upto_region 2 with fail
  go_name_world W hW
  have HX : Hid (D4 w W w.heap.size a b) := by
    rw [← hW]
    exact D4.start w a b
  clear hW
  have b0 := HX.out.xb.1
  have b1 := HX.out.xb.2
  have a0 := HX.out.xa.1
  have a1 := HX.out.xa.2
  obtain ⟨A, hAA⟩ : ∃ A, A = w.heap.size := ⟨_, rfl⟩
  rw [← hAA] at HX b0 b1 a0 a1 ⊢
  have HAA : Hid (A = w.heap.size) := hAA
  clear hAA
  have S0 := St.start W
  have KB : ∀ (wr : World) (v : Value) (ps : List Int), St W wr v ps → Below W.heap.size W wr := fun wr v ps h => h.bel
  go_upto_region 6 with (at_builtin; refine wpList_app2 W _ rfl (.tmp 23) (.tmp 29) rfl _ [] 1 b.2 S0 rfl rfl (Nat.le_of_ble_eq_true rfl) ?_; intro p2 c2 w2 hS2; clear a0 a1 b0 b1; have HY := HX.out.keep (KB _ _ _ hS2); have b0 := HY.xb.1; have b1 := HY.xb.2; have a0 := HY.xa.1; have a1 := HY.xa.2; clear HY)
  obtain ⟨g, rfl, HR⟩ := St.row (n := 1) (ps := [b.2]) hS2
  have HX2 : Hid (D4 w w2 A a b ∧ RowN w2 g [1, b.2]) := ⟨HX.out.keep (KB _ _ _ hS2), HR⟩
  clear HX HR KB S0 hS2
  go_upto_region 10 with ((go_at_call 98; refine (nhasr_any _ _ _ _).mono ?_; rintro e w1 ⟨rfl, o1, rfl⟩))
  go_name_world W5 hW5
  have HX5 : Hid (D4 w W5 A a b ∧ RowN W5 g [1, b.2]) := by
    rw [← hW5]
    first | exact HX2.out | exact ⟨HX2.out.1.keep (by exact (by repeat (first | exact Below.refl _ _ | (refine Below.drew ?_) | (refine below_drewN ?_ _) | (refine Below.setCell ?_ (by first | omega | (simp; done) | (simp; omega)) _) | (refine Below.alloc ?_ (by first | omega | (simp; done) | (simp; omega)) _) | (refine Below.trans ?_ (Below.mono (by assumption) (by first | omega | (simp; done) | (simp; omega))))))), HX2.out.2.keep (by exact (by repeat (first | exact Below.refl _ _ | (refine Below.drew ?_) | (refine below_drewN ?_ _) | (refine Below.setCell ?_ (by first | omega | (simp; done) | (simp; omega)) _) | (refine Below.alloc ?_ (by first | omega | (simp; done) | (simp; omega)) _) | (refine Below.trans ?_ (Below.mono (by assumption) (by first | omega | (simp; done) | (simp; omega)))))))⟩
  clear hW5 HX2 a0 a1 b0 b1
  have S5 := hide (St.start W5)
  go_wp2_with fail
  go_loopw [7, 8] (fun sl ix wr => (ix = .int .i64 0 ∧ Hid (St W5 wr sl [])) ∨ (ix = .int .i64 1 ∧ Hid (St W5 wr sl [a.1, a.2])) ∨ (ix = .int .i64 2 ∧ Hid (St W5 wr sl [a.1, a.2, (a.1.tdiv b.2), (a.2.tdiv b.2)]))) (fun _ i _ => 2 - (intOf i).toNat)
  case atStart => exact Or.inl ⟨rfl, S5⟩
  case round =>
    clear S5
    rcases hrel with ⟨rfl, hS⟩ | ⟨rfl, hS⟩ | ⟨rfl, hS⟩
    · obtain ⟨a1, c1, rfl⟩ := (hS.out).slice
      have HB : Hid (∀ w2 : World, Below W5.heap.size W5 w2 → (w2.cell? ⟨A, 0, none⟩ = some (.int .i64 a.1) ∧ w2.cell? ⟨A, 1, none⟩ = some (.int .i64 a.2) ∧ w2.cell? ⟨g, 0, none⟩ = some (.int .i64 1))) := fun w2 hb => by
        have x := HX5.out.1.xa.keep hb
        exact ⟨x.1, x.2, (HX5.out.2.keep hb) 0 1 rfl⟩
      go_upto_region 14 with fail
      refine wp_region_held_drew (S := fun w' => w'.cell? ⟨A, 0, none⟩ = some (.int .i64 a.1) ∧ w'.cell? ⟨A, 1, none⟩ = some (.int .i64 a.2) ∧ w'.cell? ⟨g, 0, none⟩ = some (.int .i64 1)) (by kernel_rfl) (HB.out _ hS.out.bel.drew) (fun hH0 => ?_)
      refine wpAnyH_take (i := 0) (oi := ({ dst := some 49, op := Op.move (Operand.tmp 7), type := 82, pos := "ref.go:115", after := #[], guard := none } : Oper)) (v := ?_) rfl (by kernel_rfl) (by kernel_rfl) (by kernel_rfl) (fun _ _ _ h => h) (Or.inl ⟨by rfl, ?_⟩) (by assumption) ?_
      rotate_left
      · (intro wz hSw; (try dsimp only at hSw); go_simp; try with_reducible rfl)
      simp only [Act.put, List.setIfInBounds_toArray, List.set_cons_zero, List.set_cons_succ]
      refine wpAnyH_take (i := 1) (oi := ({ dst := some 50, op := Op.fieldAddr 25 (Operand.tmp 2) 0, type := 0, pos := "ref.go:115", after := #[], guard := none } : Oper)) (v := ?_) rfl (by kernel_rfl) (by kernel_rfl) (by kernel_rfl) (fun _ _ _ h => h) (Or.inl ⟨by rfl, ?_⟩) (by assumption) ?_
      rotate_left
      · (intro wz hSw; (try dsimp only at hSw); go_simp; try with_reducible rfl)
      simp only [Act.put, List.setIfInBounds_toArray, List.set_cons_zero, List.set_cons_succ]
      refine wpAnyH_take (i := 2) (oi := ({ dst := some 51, op := Op.load 2 (Operand.tmp 50), type := 2, pos := "ref.go:115", after := #[{ on := 1, ground := Ground.data }], guard := none } : Oper)) (v := ?_) rfl (by kernel_rfl) (by kernel_rfl) (by kernel_rfl) (fun _ _ _ h => h) (Or.inl ⟨by rfl, ?_⟩) (by assumption) ?_
      rotate_left
      · (intro wz hSw; (try dsimp only at hSw); go_simp; try with_reducible rfl)
      simp only [Act.put, List.setIfInBounds_toArray, List.set_cons_zero, List.set_cons_succ]
      refine wpAnyH_take (i := 3) (oi := ({ dst := some 52, op := Op.move (Operand.tmp 6), type := 82, pos := "ref.go:115", after := #[], guard := none } : Oper)) (v := ?_) rfl (by kernel_rfl) (by kernel_rfl) (by kernel_rfl) (fun _ _ _ h => h) (Or.inl ⟨by rfl, ?_⟩) (by assumption) ?_
      rotate_left
      · (intro wz hSw; (try dsimp only at hSw); go_simp; try with_reducible rfl)
      simp only [Act.put, List.setIfInBounds_toArray, List.set_cons_zero, List.set_cons_succ]
      refine wpAnyH_take (i := 4) (oi := ({ dst := some 53, op := Op.move (Operand.tmp 8), type := 3, pos := "ref.go:115", after := #[], guard := none } : Oper)) (v := ?_) rfl (by kernel_rfl) (by kernel_rfl) (by kernel_rfl) (fun _ _ _ h => h) (Or.inl ⟨by rfl, ?_⟩) (by assumption) ?_
      rotate_left
      · (intro wz hSw; (try dsimp only at hSw); go_simp; try with_reducible rfl)
      simp only [Act.put, List.setIfInBounds_toArray, List.set_cons_zero, List.set_cons_succ]
      refine wpAnyH_take (i := 5) (oi := ({ dst := some 54, op := Op.indexAddr 82 (Operand.tmp 52) (Operand.tmp 53), type := 0, pos := "ref.go:115", after := #[{ on := 3, ground := Ground.data }, { on := 4, ground := Ground.data }], guard := none } : Oper)) (v := ?_) rfl (by kernel_rfl) (by kernel_rfl) (by kernel_rfl) (fun _ _ _ h => h) (Or.inl ⟨by rfl, ?_⟩) (by assumption) ?_
      rotate_left
      · (intro wz hSw; (try dsimp only at hSw); go_simp; try with_reducible rfl)
      simp only [Act.put, List.setIfInBounds_toArray, List.set_cons_zero, List.set_cons_succ]
      refine wpAnyH_take (i := 6) (oi := ({ dst := some 55, op := Op.load 2 (Operand.tmp 54), type := 2, pos := "ref.go:115", after := #[{ on := 5, ground := Ground.data }], guard := none } : Oper)) (v := ?_) rfl (by kernel_rfl) (by kernel_rfl) (by kernel_rfl) (fun _ _ _ h => h) (Or.inl ⟨by rfl, ?_⟩) (by assumption) ?_
      rotate_left
      · (intro wz hSw; (try dsimp only at hSw); go_simp; try with_reducible rfl)
      simp only [Act.put, List.setIfInBounds_toArray, List.set_cons_zero, List.set_cons_succ]
      refine wpAnyH_take (i := 7) (oi := ({ dst := some 56, op := Op.binOp BinOp.quo 2 (Operand.tmp 51) (Operand.tmp 55) 2, type := 2, pos := "ref.go:115", after := #[{ on := 2, ground := Ground.data }, { on := 6, ground := Ground.data }], guard := none } : Oper)) (v := ?_) rfl (by kernel_rfl) (by kernel_rfl) (by kernel_rfl) (fun _ _ _ h => h) (Or.inl ⟨by rfl, ?_⟩) (by assumption) ?_
      rotate_left
      · (intro wz hSw; (try dsimp only at hSw); go_simp; try with_reducible rfl)
      simp only [Act.put, List.setIfInBounds_toArray, List.set_cons_zero, List.set_cons_succ]
      refine wpAnyH_take (i := 8) (oi := ({ dst := some 57, op := Op.fieldAddr 25 (Operand.tmp 2) 1, type := 0, pos := "ref.go:115", after := #[], guard := none } : Oper)) (v := ?_) rfl (by kernel_rfl) (by kernel_rfl) (by kernel_rfl) (fun _ _ _ h => h) (Or.inl ⟨by rfl, ?_⟩) (by assumption) ?_
      rotate_left
      · (intro wz hSw; (try dsimp only at hSw); go_simp; try with_reducible rfl)
      simp only [Act.put, List.setIfInBounds_toArray, List.set_cons_zero, List.set_cons_succ]
      refine wpAnyH_take (i := 9) (oi := ({ dst := some 58, op := Op.load 2 (Operand.tmp 57), type := 2, pos := "ref.go:115", after := #[{ on := 8, ground := Ground.data }], guard := none } : Oper)) (v := ?_) rfl (by kernel_rfl) (by kernel_rfl) (by kernel_rfl) (fun _ _ _ h => h) (Or.inl ⟨by rfl, ?_⟩) (by assumption) ?_
      rotate_left
      · (intro wz hSw; (try dsimp only at hSw); go_simp; try with_reducible rfl)
      simp only [Act.put, List.setIfInBounds_toArray, List.set_cons_zero, List.set_cons_succ]
      refine wpAnyH_take (i := 10) (oi := ({ dst := some 59, op := Op.move (Operand.tmp 6), type := 82, pos := "ref.go:115", after := #[], guard := none } : Oper)) (v := ?_) rfl (by kernel_rfl) (by kernel_rfl) (by kernel_rfl) (fun _ _ _ h => h) (Or.inl ⟨by rfl, ?_⟩) (by assumption) ?_
      rotate_left
      · (intro wz hSw; (try dsimp only at hSw); go_simp; try with_reducible rfl)
      simp only [Act.put, List.setIfInBounds_toArray, List.set_cons_zero, List.set_cons_succ]
      refine wpAnyH_take (i := 11) (oi := ({ dst := some 60, op := Op.move (Operand.tmp 8), type := 3, pos := "ref.go:115", after := #[], guard := none } : Oper)) (v := ?_) rfl (by kernel_rfl) (by kernel_rfl) (by kernel_rfl) (fun _ _ _ h => h) (Or.inl ⟨by rfl, ?_⟩) (by assumption) ?_
      rotate_left
      · (intro wz hSw; (try dsimp only at hSw); go_simp; try with_reducible rfl)
      simp only [Act.put, List.setIfInBounds_toArray, List.set_cons_zero, List.set_cons_succ]
      refine wpAnyH_take (i := 12) (oi := ({ dst := some 61, op := Op.indexAddr 82 (Operand.tmp 59) (Operand.tmp 60), type := 0, pos := "ref.go:115", after := #[{ on := 10, ground := Ground.data }, { on := 11, ground := Ground.data }], guard := none } : Oper)) (v := ?_) rfl (by kernel_rfl) (by kernel_rfl) (by kernel_rfl) (fun _ _ _ h => h) (Or.inl ⟨by rfl, ?_⟩) (by assumption) ?_
      rotate_left
      · (intro wz hSw; (try dsimp only at hSw); go_simp; try with_reducible rfl)
      simp only [Act.put, List.setIfInBounds_toArray, List.set_cons_zero, List.set_cons_succ]
      refine wpAnyH_take (i := 13) (oi := ({ dst := some 62, op := Op.load 2 (Operand.tmp 61), type := 2, pos := "ref.go:115", after := #[{ on := 12, ground := Ground.data }], guard := none } : Oper)) (v := ?_) rfl (by kernel_rfl) (by kernel_rfl) (by kernel_rfl) (fun _ _ _ h => h) (Or.inl ⟨by rfl, ?_⟩) (by assumption) ?_
      rotate_left
      · (intro wz hSw; (try dsimp only at hSw); go_simp; try with_reducible rfl)
      simp only [Act.put, List.setIfInBounds_toArray, List.set_cons_zero, List.set_cons_succ]
      refine wpAnyH_take (i := 14) (oi := ({ dst := some 63, op := Op.binOp BinOp.quo 2 (Operand.tmp 58) (Operand.tmp 62) 2, type := 2, pos := "ref.go:115", after := #[{ on := 9, ground := Ground.data }, { on := 13, ground := Ground.data }], guard := none } : Oper)) (v := ?_) rfl (by kernel_rfl) (by kernel_rfl) (by kernel_rfl) (fun _ _ _ h => h) (Or.inl ⟨by rfl, ?_⟩) (by assumption) ?_
      rotate_left
      · (intro wz hSw; (try dsimp only at hSw); go_simp; try with_reducible rfl)
      simp only [Act.put, List.setIfInBounds_toArray, List.set_cons_zero, List.set_cons_succ]
      refine wpAnyH_ready (rs := [15]) (by kernel_rfl) (by simp) ?_
      refine AllReadyH.cons (o := ({ dst := some 64, op := Op.buildSlice 82 2 #[(0, Operand.tmp 56), (1, Operand.tmp 63)], type := 82, pos := "ref.go:115", after := #[{ on := 7, ground := Ground.data }, { on := 14, ground := Ground.data }], guard := none } : Oper)) rfl (fun K hK => ?_) AllReadyH.nil
      go_simp
      refine hK.out _ _ (HB.out _ (hS.out.bel.drew.alloc (by have := hS.out.bel.size; simp; omega) _)) (fun _ => ?_)
      clear hK K hH0
      refine wpAnyH_ready (rs := [16]) (by kernel_rfl) (by simp) ?_
      refine AllReadyH.cons (o := ({ dst := some 65, op := Op.call { callee := Callee.builtin Builtin.append, args := #[Operand.tmp 49, Operand.tmp 64], argTypes := #[82, 82] }, type := 82, pos := "ref.go:115", after := #[{ on := 0, ground := Ground.data }, { on := 15, ground := Ground.data }], guard := none } : Oper)) rfl (fun K hK => ?_) AllReadyH.nil
      refine wp_app2 W5 wr.drew (.tmp 49) (.tmp 64) rfl _ [] a.1 a.2 ⟨hS.out.own, hS.out.bel.drew⟩ rfl rfl (Nat.le_of_ble_eq_true rfl) ?_
      intro p3 c3 w3 hS3
      refine hK.out _ _ (HB.out _ hS3.bel) (fun hH0 => ?_)
      clear hK K
      replace hS3 := hide hS3
      refine wpAnyH_take (i := 17) (oi := ({ dst := some 7, op := Op.assign (Operand.tmp 65), type := 82, pos := "ref.go:115", after := #[{ on := 16, ground := Ground.data }, { on := 16, ground := Ground.chain }, { on := 0, ground := Ground.phase }, { on := 1, ground := Ground.phase }, { on := 2, ground := Ground.phase }, { on := 3, ground := Ground.phase }, { on := 4, ground := Ground.phase }, { on := 5, ground := Ground.phase }, { on := 6, ground := Ground.phase }, { on := 7, ground := Ground.phase }, { on := 8, ground := Ground.phase }, { on := 9, ground := Ground.phase }, { on := 10, ground := Ground.phase }, { on := 11, ground := Ground.phase }, { on := 12, ground := Ground.phase }, { on := 13, ground := Ground.phase }, { on := 14, ground := Ground.phase }, { on := 15, ground := Ground.phase }, { on := 16, ground := Ground.phase }], guard := none } : Oper)) (v := ?_) rfl (by kernel_rfl) (by kernel_rfl) (by kernel_rfl) (fun _ _ _ h => h) (Or.inl ⟨by rfl, ?_⟩) (by assumption) ?_
      rotate_left
      · (intro wz hSw; (try dsimp only at hSw); go_simp; try with_reducible rfl)
      simp only [Act.put, List.setIfInBounds_toArray, List.set_cons_zero, List.set_cons_succ]
      refine wpAnyH_done (by kernel_rfl) ?_ _
      go_wp2_with fail
      go_round
      case rel => exact Or.inr (Or.inl ⟨rfl, hS3.out⟩)
      case measure => simp [intOf]
    · obtain ⟨a1, c1, rfl⟩ := (hS.out).slice
      have HB : Hid (∀ w2 : World, Below W5.heap.size W5 w2 → (w2.cell? ⟨A, 0, none⟩ = some (.int .i64 a.1) ∧ w2.cell? ⟨A, 1, none⟩ = some (.int .i64 a.2) ∧ w2.cell? ⟨g, 1, none⟩ = some (.int .i64 b.2))) := fun w2 hb => by
        have x := HX5.out.1.xa.keep hb
        exact ⟨x.1, x.2, (HX5.out.2.keep hb) 1 b.2 rfl⟩
      go_upto_region 14 with fail
      refine wp_region_held_drew (S := fun w' => w'.cell? ⟨A, 0, none⟩ = some (.int .i64 a.1) ∧ w'.cell? ⟨A, 1, none⟩ = some (.int .i64 a.2) ∧ w'.cell? ⟨g, 1, none⟩ = some (.int .i64 b.2)) (by kernel_rfl) (HB.out _ hS.out.bel.drew) (fun hH0 => ?_)
      refine wpAnyH_take (i := 0) (oi := ({ dst := some 49, op := Op.move (Operand.tmp 7), type := 82, pos := "ref.go:115", after := #[], guard := none } : Oper)) (v := ?_) rfl (by kernel_rfl) (by kernel_rfl) (by kernel_rfl) (fun _ _ _ h => h) (Or.inl ⟨by rfl, ?_⟩) (by assumption) ?_
      rotate_left
      · (intro wz hSw; (try dsimp only at hSw); go_simp; try with_reducible rfl)
      simp only [Act.put, List.setIfInBounds_toArray, List.set_cons_zero, List.set_cons_succ]
      refine wpAnyH_take (i := 1) (oi := ({ dst := some 50, op := Op.fieldAddr 25 (Operand.tmp 2) 0, type := 0, pos := "ref.go:115", after := #[], guard := none } : Oper)) (v := ?_) rfl (by kernel_rfl) (by kernel_rfl) (by kernel_rfl) (fun _ _ _ h => h) (Or.inl ⟨by rfl, ?_⟩) (by assumption) ?_
      rotate_left
      · (intro wz hSw; (try dsimp only at hSw); go_simp; try with_reducible rfl)
      simp only [Act.put, List.setIfInBounds_toArray, List.set_cons_zero, List.set_cons_succ]
      refine wpAnyH_take (i := 2) (oi := ({ dst := some 51, op := Op.load 2 (Operand.tmp 50), type := 2, pos := "ref.go:115", after := #[{ on := 1, ground := Ground.data }], guard := none } : Oper)) (v := ?_) rfl (by kernel_rfl) (by kernel_rfl) (by kernel_rfl) (fun _ _ _ h => h) (Or.inl ⟨by rfl, ?_⟩) (by assumption) ?_
      rotate_left
      · (intro wz hSw; (try dsimp only at hSw); go_simp; try with_reducible rfl)
      simp only [Act.put, List.setIfInBounds_toArray, List.set_cons_zero, List.set_cons_succ]
      refine wpAnyH_take (i := 3) (oi := ({ dst := some 52, op := Op.move (Operand.tmp 6), type := 82, pos := "ref.go:115", after := #[], guard := none } : Oper)) (v := ?_) rfl (by kernel_rfl) (by kernel_rfl) (by kernel_rfl) (fun _ _ _ h => h) (Or.inl ⟨by rfl, ?_⟩) (by assumption) ?_
      rotate_left
      · (intro wz hSw; (try dsimp only at hSw); go_simp; try with_reducible rfl)
      simp only [Act.put, List.setIfInBounds_toArray, List.set_cons_zero, List.set_cons_succ]
      refine wpAnyH_take (i := 4) (oi := ({ dst := some 53, op := Op.move (Operand.tmp 8), type := 3, pos := "ref.go:115", after := #[], guard := none } : Oper)) (v := ?_) rfl (by kernel_rfl) (by kernel_rfl) (by kernel_rfl) (fun _ _ _ h => h) (Or.inl ⟨by rfl, ?_⟩) (by assumption) ?_
      rotate_left
      · (intro wz hSw; (try dsimp only at hSw); go_simp; try with_reducible rfl)
      simp only [Act.put, List.setIfInBounds_toArray, List.set_cons_zero, List.set_cons_succ]
      refine wpAnyH_take (i := 5) (oi := ({ dst := some 54, op := Op.indexAddr 82 (Operand.tmp 52) (Operand.tmp 53), type := 0, pos := "ref.go:115", after := #[{ on := 3, ground := Ground.data }, { on := 4, ground := Ground.data }], guard := none } : Oper)) (v := ?_) rfl (by kernel_rfl) (by kernel_rfl) (by kernel_rfl) (fun _ _ _ h => h) (Or.inl ⟨by rfl, ?_⟩) (by assumption) ?_
      rotate_left
      · (intro wz hSw; (try dsimp only at hSw); go_simp; try with_reducible rfl)
      simp only [Act.put, List.setIfInBounds_toArray, List.set_cons_zero, List.set_cons_succ]
      refine wpAnyH_take (i := 6) (oi := ({ dst := some 55, op := Op.load 2 (Operand.tmp 54), type := 2, pos := "ref.go:115", after := #[{ on := 5, ground := Ground.data }], guard := none } : Oper)) (v := ?_) rfl (by kernel_rfl) (by kernel_rfl) (by kernel_rfl) (fun _ _ _ h => h) (Or.inl ⟨by rfl, ?_⟩) (by assumption) ?_
      rotate_left
      · (intro wz hSw; (try dsimp only at hSw); go_simp; try with_reducible rfl)
      simp only [Act.put, List.setIfInBounds_toArray, List.set_cons_zero, List.set_cons_succ]
      refine wpAnyH_take (i := 7) (oi := ({ dst := some 56, op := Op.binOp BinOp.quo 2 (Operand.tmp 51) (Operand.tmp 55) 2, type := 2, pos := "ref.go:115", after := #[{ on := 2, ground := Ground.data }, { on := 6, ground := Ground.data }], guard := none } : Oper)) (v := ?_) rfl (by kernel_rfl) (by kernel_rfl) (by kernel_rfl) (fun _ _ _ h => h) (Or.inl ⟨by rfl, ?_⟩) (by assumption) ?_
      rotate_left
      · (intro wz hSw; (try dsimp only at hSw); go_simp; try with_reducible rfl)
      simp only [Act.put, List.setIfInBounds_toArray, List.set_cons_zero, List.set_cons_succ]
      refine wpAnyH_take (i := 8) (oi := ({ dst := some 57, op := Op.fieldAddr 25 (Operand.tmp 2) 1, type := 0, pos := "ref.go:115", after := #[], guard := none } : Oper)) (v := ?_) rfl (by kernel_rfl) (by kernel_rfl) (by kernel_rfl) (fun _ _ _ h => h) (Or.inl ⟨by rfl, ?_⟩) (by assumption) ?_
      rotate_left
      · (intro wz hSw; (try dsimp only at hSw); go_simp; try with_reducible rfl)
      simp only [Act.put, List.setIfInBounds_toArray, List.set_cons_zero, List.set_cons_succ]
      refine wpAnyH_take (i := 9) (oi := ({ dst := some 58, op := Op.load 2 (Operand.tmp 57), type := 2, pos := "ref.go:115", after := #[{ on := 8, ground := Ground.data }], guard := none } : Oper)) (v := ?_) rfl (by kernel_rfl) (by kernel_rfl) (by kernel_rfl) (fun _ _ _ h => h) (Or.inl ⟨by rfl, ?_⟩) (by assumption) ?_
      rotate_left
      · (intro wz hSw; (try dsimp only at hSw); go_simp; try with_reducible rfl)
      simp only [Act.put, List.setIfInBounds_toArray, List.set_cons_zero, List.set_cons_succ]
      refine wpAnyH_take (i := 10) (oi := ({ dst := some 59, op := Op.move (Operand.tmp 6), type := 82, pos := "ref.go:115", after := #[], guard := none } : Oper)) (v := ?_) rfl (by kernel_rfl) (by kernel_rfl) (by kernel_rfl) (fun _ _ _ h => h) (Or.inl ⟨by rfl, ?_⟩) (by assumption) ?_
      rotate_left
      · (intro wz hSw; (try dsimp only at hSw); go_simp; try with_reducible rfl)
      simp only [Act.put, List.setIfInBounds_toArray, List.set_cons_zero, List.set_cons_succ]
      refine wpAnyH_take (i := 11) (oi := ({ dst := some 60, op := Op.move (Operand.tmp 8), type := 3, pos := "ref.go:115", after := #[], guard := none } : Oper)) (v := ?_) rfl (by kernel_rfl) (by kernel_rfl) (by kernel_rfl) (fun _ _ _ h => h) (Or.inl ⟨by rfl, ?_⟩) (by assumption) ?_
      rotate_left
      · (intro wz hSw; (try dsimp only at hSw); go_simp; try with_reducible rfl)
      simp only [Act.put, List.setIfInBounds_toArray, List.set_cons_zero, List.set_cons_succ]
      refine wpAnyH_take (i := 12) (oi := ({ dst := some 61, op := Op.indexAddr 82 (Operand.tmp 59) (Operand.tmp 60), type := 0, pos := "ref.go:115", after := #[{ on := 10, ground := Ground.data }, { on := 11, ground := Ground.data }], guard := none } : Oper)) (v := ?_) rfl (by kernel_rfl) (by kernel_rfl) (by kernel_rfl) (fun _ _ _ h => h) (Or.inl ⟨by rfl, ?_⟩) (by assumption) ?_
      rotate_left
      · (intro wz hSw; (try dsimp only at hSw); go_simp; try with_reducible rfl)
      simp only [Act.put, List.setIfInBounds_toArray, List.set_cons_zero, List.set_cons_succ]
      refine wpAnyH_take (i := 13) (oi := ({ dst := some 62, op := Op.load 2 (Operand.tmp 61), type := 2, pos := "ref.go:115", after := #[{ on := 12, ground := Ground.data }], guard := none } : Oper)) (v := ?_) rfl (by kernel_rfl) (by kernel_rfl) (by kernel_rfl) (fun _ _ _ h => h) (Or.inl ⟨by rfl, ?_⟩) (by assumption) ?_
      rotate_left
      · (intro wz hSw; (try dsimp only at hSw); go_simp; try with_reducible rfl)
      simp only [Act.put, List.setIfInBounds_toArray, List.set_cons_zero, List.set_cons_succ]
      refine wpAnyH_take (i := 14) (oi := ({ dst := some 63, op := Op.binOp BinOp.quo 2 (Operand.tmp 58) (Operand.tmp 62) 2, type := 2, pos := "ref.go:115", after := #[{ on := 9, ground := Ground.data }, { on := 13, ground := Ground.data }], guard := none } : Oper)) (v := ?_) rfl (by kernel_rfl) (by kernel_rfl) (by kernel_rfl) (fun _ _ _ h => h) (Or.inl ⟨by rfl, ?_⟩) (by assumption) ?_
      rotate_left
      · (intro wz hSw; (try dsimp only at hSw); go_simp; try with_reducible rfl)
      simp only [Act.put, List.setIfInBounds_toArray, List.set_cons_zero, List.set_cons_succ]
      refine wpAnyH_ready (rs := [15]) (by kernel_rfl) (by simp) ?_
      refine AllReadyH.cons (o := ({ dst := some 64, op := Op.buildSlice 82 2 #[(0, Operand.tmp 56), (1, Operand.tmp 63)], type := 82, pos := "ref.go:115", after := #[{ on := 7, ground := Ground.data }, { on := 14, ground := Ground.data }], guard := none } : Oper)) rfl (fun K hK => ?_) AllReadyH.nil
      go_simp
      refine hK.out _ _ (HB.out _ (hS.out.bel.drew.alloc (by have := hS.out.bel.size; simp; omega) _)) (fun _ => ?_)
      clear hK K hH0
      refine wpAnyH_ready (rs := [16]) (by kernel_rfl) (by simp) ?_
      refine AllReadyH.cons (o := ({ dst := some 65, op := Op.call { callee := Callee.builtin Builtin.append, args := #[Operand.tmp 49, Operand.tmp 64], argTypes := #[82, 82] }, type := 82, pos := "ref.go:115", after := #[{ on := 0, ground := Ground.data }, { on := 15, ground := Ground.data }], guard := none } : Oper)) rfl (fun K hK => ?_) AllReadyH.nil
      refine wp_app2 W5 wr.drew (.tmp 49) (.tmp 64) rfl _ [a.1, a.2] (a.1.tdiv b.2) (a.2.tdiv b.2) ⟨hS.out.own, hS.out.bel.drew⟩ rfl rfl (Nat.le_of_ble_eq_true rfl) ?_
      intro p3 c3 w3 hS3
      refine hK.out _ _ (HB.out _ hS3.bel) (fun hH0 => ?_)
      clear hK K
      replace hS3 := hide hS3
      refine wpAnyH_take (i := 17) (oi := ({ dst := some 7, op := Op.assign (Operand.tmp 65), type := 82, pos := "ref.go:115", after := #[{ on := 16, ground := Ground.data }, { on := 16, ground := Ground.chain }, { on := 0, ground := Ground.phase }, { on := 1, ground := Ground.phase }, { on := 2, ground := Ground.phase }, { on := 3, ground := Ground.phase }, { on := 4, ground := Ground.phase }, { on := 5, ground := Ground.phase }, { on := 6, ground := Ground.phase }, { on := 7, ground := Ground.phase }, { on := 8, ground := Ground.phase }, { on := 9, ground := Ground.phase }, { on := 10, ground := Ground.phase }, { on := 11, ground := Ground.phase }, { on := 12, ground := Ground.phase }, { on := 13, ground := Ground.phase }, { on := 14, ground := Ground.phase }, { on := 15, ground := Ground.phase }, { on := 16, ground := Ground.phase }], guard := none } : Oper)) (v := ?_) rfl (by kernel_rfl) (by kernel_rfl) (by kernel_rfl) (fun _ _ _ h => h) (Or.inl ⟨by rfl, ?_⟩) (by assumption) ?_
      rotate_left
      · (intro wz hSw; (try dsimp only at hSw); go_simp; try with_reducible rfl)
      simp only [Act.put, List.setIfInBounds_toArray, List.set_cons_zero, List.set_cons_succ]
      refine wpAnyH_done (by kernel_rfl) ?_ _
      go_wp2_with fail
      go_round
      case rel => exact Or.inr (Or.inr (⟨rfl, hS3.out⟩))
      case measure => simp [intOf]
    · obtain ⟨a1, c1, rfl⟩ := (hS.out).slice
      obtain ⟨g2, rfl, HR⟩ := St.row (n := a.1) (ps := [a.2, (a.1.tdiv b.2), (a.2.tdiv b.2)]) hS.out
      have HY := HX5.out.1.keep hS.out.bel
      have HR := hide HR
      have HY := hide HY
      clear hS HX5
      go_wp2_with (go_at_call 89; refine (hull_yes g2 _ a.1 [a.2, (a.1.tdiv b.2), (a.2.tdiv b.2)] _ HR.out (Nat.le_of_ble_eq_true rfl)).mono ?_; rintro e wQ ⟨rfl, hbQ⟩; have KQ := HY.out.keep hbQ; have r0 := KQ.xr.1.1; have r1 := KQ.xr.1.2; have r2 := KQ.xr.2.1; have r3 := KQ.xr.2.2; have hWQ := KQ.bel; clear KQ hbQ)
      clear HR HY
      refine bodyPost_ret (by simp [results, Tryz.results92, go_sem, *]; try rfl) rfl ⟨?_, by rw [← HAA.out]; exact (by repeat (first | assumption | (refine Below.drew ?_) | (refine below_drewN ?_ _) | (refine Below.setCell ?_ (by first | omega | (simp; omega)) _) | (refine Below.alloc ?_ (by first | omega | (simp; omega)) _)))⟩
      rw [HQ.out]
end Go.Proofs.YthiacdbjlkpfgaaGreatDoor
