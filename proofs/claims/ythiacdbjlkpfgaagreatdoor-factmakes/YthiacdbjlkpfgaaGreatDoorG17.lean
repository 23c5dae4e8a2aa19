import Derived.Test.YthiacdbjlkpfgaaGreatDoorG05
import Derived.Test.YthiacdbjlkpfgaaGreatDoorG16
import Derived.Deep.CutBlock
import Derived.LoopTactic
namespace Go.Proofs.YthiacdbjlkpfgaaGreatDoor
open Go.RowKit
theorem St.alloc {w0 wr : World} {v : Value} {ps : List Int} (h : St w0 wr v ps) (o : Obj) : St w0 (wr.alloc o) v ps := ⟨h.own.alloc _, h.bel.alloc h.bel.size _⟩
def hulL (ok : Bool) (n : Int) (ps : List Int) : Int × Int := if ok then (lst n ps, grt n ps) else allP
theorem hullB (g c : Nat) (n : Int) (ps : List Int) (ok : Bool) (w : World) (h : RowN w g (n :: ps)) (hl : ps.length ≤ 100) : Calls Tryz.prog 89 #[.slice (some ⟨g, 0, none⟩) (ps.length + 1) c, .bool ok] w fun e w' => e = .returned (.tuple #[.agg #[.int .i64 (hulL ok n ps).1, .int .i64 (hulL ok n ps).2], .bool true]) ∧ Below w.heap.size w w' := by
  cases ok
  · exact hull_no _ _
  · exact hull_yes g c n ps w h hl
theorem prods_hull (a b : Int × Int) : prodsP a b = hulL (((((true && fit (a.1 * b.1)) && fit (a.1 * b.2)) && fit (a.2 * b.1)) && fit (a.2 * b.2))) (wrap64 (a.1 * b.1)) [(wrap64 (a.1 * b.2)), (wrap64 (a.2 * b.1)), (wrap64 (a.2 * b.2))] := by
  unfold prodsP hulL
  by_cases h : (fit (a.1 * b.1) && fit (a.1 * b.2) && fit (a.2 * b.1) && fit (a.2 * b.2)) = true
  · rw [if_pos h, if_pos (by simpa using h)]
    unfold fit at h
    simp only [Bool.and_eq_true, decide_eq_true_eq] at h
    rw [wrap_fit _ h.1.1.1.1 h.1.1.1.2, wrap_fit _ h.1.1.2.1 h.1.1.2.2, wrap_fit _ h.1.2.1 h.1.2.2, wrap_fit _ h.2.1 h.2.2]
    unfold mn mx
    simp only [lst, grt, Prod.mk.injEq]
    omega
  · rw [if_neg h, if_neg (by simpa using h)]
set_option maxRecDepth 100000 in
set_option maxHeartbeats 16000000 in
theorem twor_6 (a b : Int × Int) (w : World) (ha : Sp a) (hb : Sp b) : Calls Tryz.prog 40 #[.int .i64 6, .agg #[.int .i64 a.1, .int .i64 a.2], .agg #[.int .i64 b.1, .int .i64 b.2]] w fun e w' => e = .returned (.tuple #[.agg #[.int .i64 ((twoP 6 a b).1).1, .int .i64 ((twoP 6 a b).1).2], .bool (twoP 6 a b).2]) ∧ Below w.heap.size w w' := by
  have e0 : twoP 6 a b = (prodsP a b, true) := by unfold twoP; simp only [Int.reduceEq, if_false, if_true]
  have i1 : i64 a.1 := by unfold Sp at ha; unfold i64; omega
  have i2 : i64 a.2 := by unfold Sp at ha; unfold i64; omega
  have i3 : i64 b.1 := by unfold Sp at hb; unfold i64; omega
  have i4 : i64 b.2 := by unfold Sp at hb; unfold i64; omega
  have HQ := hide (prods_hull a b)
  rw [e0]
  dsimp only
  generalize prodsP a b = r at *
  clear e0 ha hb
  have z0 : IntKind.i64.wrap 0 = 0 := by decide
  have z1 : IntKind.i64.wrap 1 = 1 := by decide
  go_enter Tryz.func40, Tryz.ntmps40
  go_upto_region 2 with fail
  go_name_world W5 hW
  have HX5 : Hid (D4 w W5 w.heap.size a b) := by
    rw [← hW]
    exact D4.start w a b
  clear hW
  obtain ⟨A, hAA⟩ : ∃ A, A = w.heap.size := ⟨_, rfl⟩
  rw [← hAA] at HX5 ⊢
  have HAA : Hid (A = w.heap.size) := hAA
  clear hAA
  have S5 := hide (St.start W5)
  go_wp2_with fail
  go_loopw [16, 17, 18] (fun sl bl ix wr => (ix = .int .i64 0 ∧ bl = .bool true ∧ Hid (St W5 wr sl [])) ∨ (ix = .int .i64 1 ∧ bl = .bool (true && fit (a.1 * b.1)) ∧ Hid (St W5 wr sl [(wrap64 (a.1 * b.1))])) ∨ (ix = .int .i64 2 ∧ bl = .bool ((true && fit (a.1 * b.1)) && fit (a.1 * b.2)) ∧ Hid (St W5 wr sl [(wrap64 (a.1 * b.1)), (wrap64 (a.1 * b.2))])) ∨ (ix = .int .i64 3 ∧ bl = .bool (((true && fit (a.1 * b.1)) && fit (a.1 * b.2)) && fit (a.2 * b.1)) ∧ Hid (St W5 wr sl [(wrap64 (a.1 * b.1)), (wrap64 (a.1 * b.2)), (wrap64 (a.2 * b.1))])) ∨ (ix = .int .i64 4 ∧ bl = .bool ((((true && fit (a.1 * b.1)) && fit (a.1 * b.2)) && fit (a.2 * b.1)) && fit (a.2 * b.2)) ∧ Hid (St W5 wr sl [(wrap64 (a.1 * b.1)), (wrap64 (a.1 * b.2)), (wrap64 (a.2 * b.1)), (wrap64 (a.2 * b.2))]))) (fun _ _ i _ => 4 - (intOf i).toNat)
  case atStart => exact Or.inl ⟨rfl, rfl, S5⟩
  case round =>
    clear S5
    rcases hrel with ⟨rfl, rfl, hS⟩ | ⟨rfl, rfl, hS⟩ | ⟨rfl, rfl, hS⟩ | ⟨rfl, rfl, hS⟩ | ⟨rfl, rfl, hS⟩
    · obtain ⟨p1, c1, rfl⟩ := (hS.out).slice
      have HB : Hid (∀ w2 : World, St W5 w2 (.slice p1 0 c1) [] → (w2.cell? ⟨A, 0, none⟩ = some (.int .i64 a.1) ∧ w2.cell? ⟨A, 1, none⟩ = some (.int .i64 a.2) ∧ w2.cell? ⟨A + 1, 0, none⟩ = some (.int .i64 b.1) ∧ w2.cell? ⟨A + 1, 1, none⟩ = some (.int .i64 b.2) ∧ Hid (St W5 w2 (.slice p1 0 c1) []))) := fun w2 h => by
        have x := HX5.out.keep h.bel
        exact ⟨x.xa.1, x.xa.2, x.xb.1, x.xb.2, h⟩
      have HAL : Hid (∀ (w2 : World) (o : Obj), (w2.cell? ⟨A, 0, none⟩ = some (.int .i64 a.1) ∧ w2.cell? ⟨A, 1, none⟩ = some (.int .i64 a.2) ∧ w2.cell? ⟨A + 1, 0, none⟩ = some (.int .i64 b.1) ∧ w2.cell? ⟨A + 1, 1, none⟩ = some (.int .i64 b.2) ∧ Hid (St W5 w2 (.slice p1 0 c1) [])) → ((w2.alloc o).cell? ⟨A, 0, none⟩ = some (.int .i64 a.1) ∧ (w2.alloc o).cell? ⟨A, 1, none⟩ = some (.int .i64 a.2) ∧ (w2.alloc o).cell? ⟨A + 1, 0, none⟩ = some (.int .i64 b.1) ∧ (w2.alloc o).cell? ⟨A + 1, 1, none⟩ = some (.int .i64 b.2) ∧ Hid (St W5 (w2.alloc o) (.slice p1 0 c1) []))) := fun w2 o h => HB.out _ (h.2.2.2.2.out.alloc o)
      have HDR : Hid (∀ (w2 : World) (j : Nat), (w2.cell? ⟨A, 0, none⟩ = some (.int .i64 a.1) ∧ w2.cell? ⟨A, 1, none⟩ = some (.int .i64 a.2) ∧ w2.cell? ⟨A + 1, 0, none⟩ = some (.int .i64 b.1) ∧ w2.cell? ⟨A + 1, 1, none⟩ = some (.int .i64 b.2) ∧ Hid (St W5 w2 (.slice p1 0 c1) [])) → ((w2.drewN j).cell? ⟨A, 0, none⟩ = some (.int .i64 a.1) ∧ (w2.drewN j).cell? ⟨A, 1, none⟩ = some (.int .i64 a.2) ∧ (w2.drewN j).cell? ⟨A + 1, 0, none⟩ = some (.int .i64 b.1) ∧ (w2.drewN j).cell? ⟨A + 1, 1, none⟩ = some (.int .i64 b.2) ∧ Hid (St W5 (w2.drewN j) (.slice p1 0 c1) []))) := fun w2 j h => HB.out _ (h.2.2.2.2.out.drewN j)
      have hS1 : Hid (St W5 wr (.slice p1 0 c1) []) := hS.out
      clear hS
      go_upto_region 16 with fail
      go_cut [19, 20] from 80 to 113 (fun v19 v20 wy => v19 = .int .i64 (wrap64 (a.1 * b.1)) ∧ v20 = .bool (fit (a.1 * b.1)) ∧ Hid (St W5 wy (.slice p1 0 c1) []))
      case first =>
        refine wp_region_held_drew (S := fun w' => w'.cell? ⟨A, 0, none⟩ = some (.int .i64 a.1) ∧ w'.cell? ⟨A, 1, none⟩ = some (.int .i64 a.2) ∧ w'.cell? ⟨A + 1, 0, none⟩ = some (.int .i64 b.1) ∧ w'.cell? ⟨A + 1, 1, none⟩ = some (.int .i64 b.2) ∧ Hid (St W5 w' (.slice p1 0 c1) [])) (by kernel_rfl) (HDR.out wr 1 (HB.out _ hS1.out)) (fun hH0 => ?_)
        obtain ⟨w0, hw0⟩ : ∃ w0, w0 = wr.drew := ⟨_, rfl⟩
        rw [← hw0] at hH0 ⊢
        clear hw0
        refine wpAnyH_take (i := 0) (oi := ({ dst := some 85, op := Op.fieldAddr 25 (Operand.tmp 4) 0, type := 0, pos := "ref.go:206", after := #[], guard := none } : Oper)) (v := ?_) rfl (by kernel_rfl) (by kernel_rfl) (by kernel_rfl) (fun _ _ _ h => h) (Or.inl ⟨by rfl, ?_⟩) (by assumption) ?_
        rotate_left
        · (intro wz hSw; (try dsimp only at hSw); go_simp; try with_reducible rfl)
        simp only [Act.put, List.setIfInBounds_toArray, List.set_cons_zero, List.set_cons_succ]
        refine wpAnyH_take (i := 1) (oi := ({ dst := some 86, op := Op.load 2 (Operand.tmp 85), type := 2, pos := "ref.go:206", after := #[{ on := 0, ground := Ground.data }], guard := none } : Oper)) (v := ?_) rfl (by kernel_rfl) (by kernel_rfl) (by kernel_rfl) (fun _ _ _ h => h) (Or.inl ⟨by rfl, ?_⟩) (by assumption) ?_
        rotate_left
        · (intro wz hSw; (try dsimp only at hSw); go_simp; try with_reducible rfl)
        simp only [Act.put, List.setIfInBounds_toArray, List.set_cons_zero, List.set_cons_succ]
        refine wpAnyH_take (i := 2) (oi := ({ dst := some 87, op := Op.fieldAddr 25 (Operand.tmp 4) 1, type := 0, pos := "ref.go:206", after := #[], guard := none } : Oper)) (v := ?_) rfl (by kernel_rfl) (by kernel_rfl) (by kernel_rfl) (fun _ _ _ h => h) (Or.inl ⟨by rfl, ?_⟩) (by assumption) ?_
        rotate_left
        · (intro wz hSw; (try dsimp only at hSw); go_simp; try with_reducible rfl)
        simp only [Act.put, List.setIfInBounds_toArray, List.set_cons_zero, List.set_cons_succ]
        refine wpAnyH_take (i := 3) (oi := ({ dst := some 88, op := Op.load 2 (Operand.tmp 87), type := 2, pos := "ref.go:206", after := #[{ on := 2, ground := Ground.data }], guard := none } : Oper)) (v := ?_) rfl (by kernel_rfl) (by kernel_rfl) (by kernel_rfl) (fun _ _ _ h => h) (Or.inl ⟨by rfl, ?_⟩) (by assumption) ?_
        rotate_left
        · (intro wz hSw; (try dsimp only at hSw); go_simp; try with_reducible rfl)
        simp only [Act.put, List.setIfInBounds_toArray, List.set_cons_zero, List.set_cons_succ]
        refine wpAnyH_take (i := 5) (oi := ({ dst := some 90, op := Op.move (Operand.tmp 18), type := 3, pos := "ref.go:206", after := #[], guard := none } : Oper)) (v := ?_) rfl (by kernel_rfl) (by kernel_rfl) (by kernel_rfl) (fun _ _ _ h => h) (Or.inl ⟨by rfl, ?_⟩) (by assumption) ?_
        rotate_left
        · (intro wz hSw; (try dsimp only at hSw); go_simp; try with_reducible rfl)
        simp only [Act.put, List.setIfInBounds_toArray, List.set_cons_zero, List.set_cons_succ]
        refine wpAnyH_take (i := 6) (oi := ({ dst := some 91, op := Op.binOp BinOp.quo 3 (Operand.tmp 90) (Operand.const (Value.int IntKind.i64 2)) 3, type := 3, pos := "ref.go:206", after := #[{ on := 5, ground := Ground.data }], guard := none } : Oper)) (v := ?_) rfl (by kernel_rfl) (by kernel_rfl) (by kernel_rfl) (fun _ _ _ h => h) (Or.inl ⟨by rfl, ?_⟩) (by assumption) ?_
        rotate_left
        · (intro wz hSw; (try dsimp only at hSw); go_simp; try with_reducible rfl)
        simp only [Act.put, List.setIfInBounds_toArray, List.set_cons_zero, List.set_cons_succ]
        refine wpAnyH_take (i := 9) (oi := ({ dst := some 94, op := Op.fieldAddr 25 (Operand.tmp 5) 0, type := 0, pos := "ref.go:206", after := #[], guard := none } : Oper)) (v := ?_) rfl (by kernel_rfl) (by kernel_rfl) (by kernel_rfl) (fun _ _ _ h => h) (Or.inl ⟨by rfl, ?_⟩) (by assumption) ?_
        rotate_left
        · (intro wz hSw; (try dsimp only at hSw); go_simp; try with_reducible rfl)
        simp only [Act.put, List.setIfInBounds_toArray, List.set_cons_zero, List.set_cons_succ]
        refine wpAnyH_take (i := 10) (oi := ({ dst := some 95, op := Op.load 2 (Operand.tmp 94), type := 2, pos := "ref.go:206", after := #[{ on := 9, ground := Ground.data }], guard := none } : Oper)) (v := ?_) rfl (by kernel_rfl) (by kernel_rfl) (by kernel_rfl) (fun _ _ _ h => h) (Or.inl ⟨by rfl, ?_⟩) (by assumption) ?_
        rotate_left
        · (intro wz hSw; (try dsimp only at hSw); go_simp; try with_reducible rfl)
        simp only [Act.put, List.setIfInBounds_toArray, List.set_cons_zero, List.set_cons_succ]
        refine wpAnyH_take (i := 11) (oi := ({ dst := some 96, op := Op.fieldAddr 25 (Operand.tmp 5) 1, type := 0, pos := "ref.go:206", after := #[], guard := none } : Oper)) (v := ?_) rfl (by kernel_rfl) (by kernel_rfl) (by kernel_rfl) (fun _ _ _ h => h) (Or.inl ⟨by rfl, ?_⟩) (by assumption) ?_
        rotate_left
        · (intro wz hSw; (try dsimp only at hSw); go_simp; try with_reducible rfl)
        simp only [Act.put, List.setIfInBounds_toArray, List.set_cons_zero, List.set_cons_succ]
        refine wpAnyH_take (i := 12) (oi := ({ dst := some 97, op := Op.load 2 (Operand.tmp 96), type := 2, pos := "ref.go:206", after := #[{ on := 11, ground := Ground.data }], guard := none } : Oper)) (v := ?_) rfl (by kernel_rfl) (by kernel_rfl) (by kernel_rfl) (fun _ _ _ h => h) (Or.inl ⟨by rfl, ?_⟩) (by assumption) ?_
        rotate_left
        · (intro wz hSw; (try dsimp only at hSw); go_simp; try with_reducible rfl)
        simp only [Act.put, List.setIfInBounds_toArray, List.set_cons_zero, List.set_cons_succ]
        refine wpAnyH_take (i := 14) (oi := ({ dst := some 99, op := Op.move (Operand.tmp 18), type := 3, pos := "ref.go:206", after := #[], guard := none } : Oper)) (v := ?_) rfl (by kernel_rfl) (by kernel_rfl) (by kernel_rfl) (fun _ _ _ h => h) (Or.inl ⟨by rfl, ?_⟩) (by assumption) ?_
        rotate_left
        · (intro wz hSw; (try dsimp only at hSw); go_simp; try with_reducible rfl)
        simp only [Act.put, List.setIfInBounds_toArray, List.set_cons_zero, List.set_cons_succ]
        refine wpAnyH_take (i := 15) (oi := ({ dst := some 100, op := Op.binOp BinOp.rem 3 (Operand.tmp 99) (Operand.const (Value.int IntKind.i64 2)) 3, type := 3, pos := "ref.go:206", after := #[{ on := 14, ground := Ground.data }], guard := none } : Oper)) (v := ?_) rfl (by kernel_rfl) (by kernel_rfl) (by kernel_rfl) (fun _ _ _ h => h) (Or.inl ⟨by rfl, ?_⟩) (by assumption) ?_
        rotate_left
        · (intro wz hSw; (try dsimp only at hSw); go_simp; try with_reducible rfl)
        simp only [Act.put, List.setIfInBounds_toArray, List.set_cons_zero, List.set_cons_succ]
        refine wpAnyH_ready (rs := [4, 13]) (by kernel_rfl) (by simp) ?_
        refine AllReadyH.cons (o := ({ dst := some 89, op := Op.buildSlice 82 2 #[(0, Operand.tmp 86), (1, Operand.tmp 88)], type := 82, pos := "ref.go:206", after := #[{ on := 1, ground := Ground.data }, { on := 3, ground := Ground.data }], guard := none } : Oper)) rfl (fun K hK => ?_) (AllReadyH.cons (o := ({ dst := some 98, op := Op.buildSlice 82 2 #[(0, Operand.tmp 95), (1, Operand.tmp 97)], type := 82, pos := "ref.go:206", after := #[{ on := 10, ground := Ground.data }, { on := 12, ground := Ground.data }], guard := none } : Oper)) rfl (fun K hK => ?_) AllReadyH.nil)
        · go_simp
          have P1 := Bx.new w0 a.1 a.2 2
          refine hK.out _ _ (HAL.out _ _ hH0) (fun hH1 => ?_)
          clear hK K
          obtain ⟨w1, hw1⟩ : ∃ w1, w1 = (w0.alloc (.cells #[.int .i64 a.1, .int .i64 a.2] 2)) := ⟨_, rfl⟩
          rw [← hw1] at hH1 P1 ⊢
          clear hw1
          generalize w0.heap.size = kP at *
          refine wpAnyH_take (i := 7) (oi := ({ dst := some 92, op := Op.indexAddr 82 (Operand.tmp 89) (Operand.tmp 91), type := 0, pos := "ref.go:206", after := #[{ on := 4, ground := Ground.data }, { on := 6, ground := Ground.data }], guard := none } : Oper)) (v := ?_) rfl (by kernel_rfl) (by kernel_rfl) (by kernel_rfl) (fun _ _ _ h => h) (Or.inl ⟨by rfl, ?_⟩) (by assumption) ?_
          rotate_left
          · (intro wz hSw; (try dsimp only at hSw); go_simp; try with_reducible rfl)
          simp only [Act.put, List.setIfInBounds_toArray, List.set_cons_zero, List.set_cons_succ]
          refine wpAnyH_ready (rs := [8, 13]) (by kernel_rfl) (by simp) ?_
          refine AllReadyH.cons (o := ({ dst := some 93, op := Op.load 2 (Operand.tmp 92), type := 2, pos := "ref.go:206", after := #[{ on := 7, ground := Ground.data }], guard := none } : Oper)) rfl (fun K hK => ?_) (AllReadyH.cons (o := ({ dst := some 98, op := Op.buildSlice 82 2 #[(0, Operand.tmp 95), (1, Operand.tmp 97)], type := 82, pos := "ref.go:206", after := #[{ on := 10, ground := Ground.data }, { on := 12, ground := Ground.data }], guard := none } : Oper)) rfl (fun K hK => ?_) AllReadyH.nil)
          · have c0 := P1.1
            have c1 := P1.2
            go_simp
            refine hK.out _ _ hH1 (fun _ => ?_)
            clear hK K c0 c1
            refine wpAnyH_ready (rs := [13]) (by kernel_rfl) (by simp) ?_
            refine AllReadyH.cons (o := ({ dst := some 98, op := Op.buildSlice 82 2 #[(0, Operand.tmp 95), (1, Operand.tmp 97)], type := 82, pos := "ref.go:206", after := #[{ on := 10, ground := Ground.data }, { on := 12, ground := Ground.data }], guard := none } : Oper)) rfl (fun K hK => ?_) AllReadyH.nil
            · go_simp
              have Q2 := Bx.new w1 b.1 b.2 2
              have P2 := P1.keep ((Below.refl _ _).alloc (Nat.le_refl _) (.cells #[.int .i64 b.1, .int .i64 b.2] 2))
              refine hK.out _ _ (HAL.out _ _ hH1) (fun hH2 => ?_)
              clear hK K
              obtain ⟨w2, hw2⟩ : ∃ w2, w2 = (w1.alloc (.cells #[.int .i64 b.1, .int .i64 b.2] 2)) := ⟨_, rfl⟩
              rw [← hw2] at hH2 P2 Q2 ⊢
              clear hw2
              generalize w1.heap.size = kQ at *
              refine wpAnyH_take (i := 16) (oi := ({ dst := some 101, op := Op.indexAddr 82 (Operand.tmp 98) (Operand.tmp 100), type := 0, pos := "ref.go:206", after := #[{ on := 13, ground := Ground.data }, { on := 15, ground := Ground.data }], guard := none } : Oper)) (v := ?_) rfl (by kernel_rfl) (by kernel_rfl) (by kernel_rfl) (fun _ _ _ h => h) (Or.inl ⟨by rfl, ?_⟩) (by assumption) ?_
              rotate_left
              · (intro wz hSw; (try dsimp only at hSw); go_simp; try with_reducible rfl)
              simp only [Act.put, List.setIfInBounds_toArray, List.set_cons_zero, List.set_cons_succ]
              refine wpAnyH_ready (rs := [17]) (by kernel_rfl) (by simp) ?_
              refine AllReadyH.cons (o := ({ dst := some 102, op := Op.load 2 (Operand.tmp 101), type := 2, pos := "ref.go:206", after := #[{ on := 16, ground := Ground.data }], guard := none } : Oper)) rfl (fun K hK => ?_) AllReadyH.nil
              · have c0 := Q2.1
                have c1 := Q2.2
                go_simp
                refine hK.out _ _ hH2 (fun _ => ?_)
                clear hK K c0 c1
                refine wpAnyH_ready (rs := [18]) (by kernel_rfl) (by simp) ?_
                refine AllReadyH.cons (o := ({ dst := some 103, op := Op.call { callee := Callee.value (Operand.func 91), args := #[Operand.tmp 93, Operand.tmp 102], argTypes := #[2, 2] }, type := 96, pos := "ref.go:206", after := #[{ on := 8, ground := Ground.data }, { on := 17, ground := Ground.data }], guard := none } : Oper)) rfl (fun K hK => ?_) AllReadyH.nil
                · go_simp
                  go_at_call 91
                  refine (times_any _ _ _ (by assumption) (by assumption)).mono ?_
                  rintro e x ⟨rfl, j, rfl⟩
                  refine hK.out _ _ (HDR.out _ j hH2) (fun hH3 => ?_)
                  clear hK K
                  refine wpAnyH_take (i := 19) (oi := ({ dst := some 84, op := Op.move (Operand.tmp 103), type := 96, pos := "ref.go:206", after := #[{ on := 18, ground := Ground.data }], guard := none } : Oper)) (v := ?_) rfl (by kernel_rfl) (by kernel_rfl) (by kernel_rfl) (fun _ _ _ h => h) (Or.inl ⟨by rfl, ?_⟩) (by assumption) ?_
                  rotate_left
                  · (intro wz hSw; (try dsimp only at hSw); go_simp; try with_reducible rfl)
                  simp only [Act.put, List.setIfInBounds_toArray, List.set_cons_zero, List.set_cons_succ]
                  refine wpAnyH_take (i := 20) (oi := ({ dst := some 104, op := Op.extract (Operand.tmp 84) 0, type := 2, pos := "ref.go:206", after := #[{ on := 19, ground := Ground.data }], guard := none } : Oper)) (v := ?_) rfl (by kernel_rfl) (by kernel_rfl) (by kernel_rfl) (fun _ _ _ h => h) (Or.inl ⟨by rfl, ?_⟩) (by assumption) ?_
                  rotate_left
                  · (intro wz hSw; (try dsimp only at hSw); go_simp; try with_reducible rfl)
                  simp only [Act.put, List.setIfInBounds_toArray, List.set_cons_zero, List.set_cons_succ]
                  refine wpAnyH_take (i := 21) (oi := ({ dst := some 105, op := Op.extract (Operand.tmp 84) 1, type := 4, pos := "ref.go:206", after := #[{ on := 19, ground := Ground.data }, { on := 22, ground := Ground.gcOnly Departure.lateStores }], guard := none } : Oper)) (v := ?_) rfl (by kernel_rfl) (by kernel_rfl) (by kernel_rfl) (fun _ _ _ h => h) (Or.inl ⟨by rfl, ?_⟩) (by assumption) ?_
                  rotate_left
                  · (intro wz hSw; (try dsimp only at hSw); go_simp; try with_reducible rfl)
                  simp only [Act.put, List.setIfInBounds_toArray, List.set_cons_zero, List.set_cons_succ]
                  refine wpAnyH_take (i := 22) (oi := ({ dst := some 19, op := Op.assign (Operand.tmp 104), type := 2, pos := "ref.go:206", after := #[{ on := 20, ground := Ground.data }, { on := 18, ground := Ground.chain }, { on := 0, ground := Ground.phase }, { on := 1, ground := Ground.phase }, { on := 2, ground := Ground.phase }, { on := 3, ground := Ground.phase }, { on := 4, ground := Ground.phase }, { on := 5, ground := Ground.phase }, { on := 6, ground := Ground.phase }, { on := 7, ground := Ground.phase }, { on := 8, ground := Ground.phase }, { on := 9, ground := Ground.phase }, { on := 10, ground := Ground.phase }, { on := 11, ground := Ground.phase }, { on := 12, ground := Ground.phase }, { on := 13, ground := Ground.phase }, { on := 14, ground := Ground.phase }, { on := 15, ground := Ground.phase }, { on := 16, ground := Ground.phase }, { on := 17, ground := Ground.phase }, { on := 18, ground := Ground.phase }, { on := 19, ground := Ground.phase }, { on := 20, ground := Ground.phase }, { on := 21, ground := Ground.textOnly Departure.lateStores }], guard := none } : Oper)) (v := ?_) rfl (by kernel_rfl) (by kernel_rfl) (by kernel_rfl) (fun _ _ _ h => h) (Or.inl ⟨by rfl, ?_⟩) (by assumption) ?_
                  rotate_left
                  · (intro wz hSw; (try dsimp only at hSw); go_simp; try with_reducible rfl)
                  simp only [Act.put, List.setIfInBounds_toArray, List.set_cons_zero, List.set_cons_succ]
                  refine wpAnyH_take (i := 23) (oi := ({ dst := some 20, op := Op.assign (Operand.tmp 105), type := 4, pos := "ref.go:206", after := #[{ on := 21, ground := Ground.data }, { on := 22, ground := Ground.chain }, { on := 0, ground := Ground.phase }, { on := 1, ground := Ground.phase }, { on := 2, ground := Ground.phase }, { on := 3, ground := Ground.phase }, { on := 4, ground := Ground.phase }, { on := 5, ground := Ground.phase }, { on := 6, ground := Ground.phase }, { on := 7, ground := Ground.phase }, { on := 8, ground := Ground.phase }, { on := 9, ground := Ground.phase }, { on := 10, ground := Ground.phase }, { on := 11, ground := Ground.phase }, { on := 12, ground := Ground.phase }, { on := 13, ground := Ground.phase }, { on := 14, ground := Ground.phase }, { on := 15, ground := Ground.phase }, { on := 16, ground := Ground.phase }, { on := 17, ground := Ground.phase }, { on := 18, ground := Ground.phase }, { on := 19, ground := Ground.phase }, { on := 20, ground := Ground.phase }, { on := 21, ground := Ground.phase }, { on := 22, ground := Ground.phase }], guard := none } : Oper)) (v := ?_) rfl (by kernel_rfl) (by kernel_rfl) (by kernel_rfl) (fun _ _ _ h => h) (Or.inl ⟨by rfl, ?_⟩) (by assumption) ?_
                  rotate_left
                  · (intro wz hSw; (try dsimp only at hSw); go_simp; try with_reducible rfl)
                  simp only [Act.put, List.setIfInBounds_toArray, List.set_cons_zero, List.set_cons_succ]
                  refine wpAnyH_done (by kernel_rfl) ?_ _
                  go_wp2_with fail
                  go_meet
                  case rel => exact ⟨rfl, rfl, hH3.2.2.2.2.out⟩
          · go_simp
            have Q2 := Bx.new w1 b.1 b.2 2
            have P2 := P1.keep ((Below.refl _ _).alloc (Nat.le_refl _) (.cells #[.int .i64 b.1, .int .i64 b.2] 2))
            refine hK.out _ _ (HAL.out _ _ hH1) (fun hH2 => ?_)
            clear hK K
            obtain ⟨w2, hw2⟩ : ∃ w2, w2 = (w1.alloc (.cells #[.int .i64 b.1, .int .i64 b.2] 2)) := ⟨_, rfl⟩
            rw [← hw2] at hH2 P2 Q2 ⊢
            clear hw2
            generalize w1.heap.size = kQ at *
            refine wpAnyH_take (i := 16) (oi := ({ dst := some 101, op := Op.indexAddr 82 (Operand.tmp 98) (Operand.tmp 100), type := 0, pos := "ref.go:206", after := #[{ on := 13, ground := Ground.data }, { on := 15, ground := Ground.data }], guard := none } : Oper)) (v := ?_) rfl (by kernel_rfl) (by kernel_rfl) (by kernel_rfl) (fun _ _ _ h => h) (Or.inl ⟨by rfl, ?_⟩) (by assumption) ?_
            rotate_left
            · (intro wz hSw; (try dsimp only at hSw); go_simp; try with_reducible rfl)
            simp only [Act.put, List.setIfInBounds_toArray, List.set_cons_zero, List.set_cons_succ]
            refine wpAnyH_ready (rs := [8, 17]) (by kernel_rfl) (by simp) ?_
            refine AllReadyH.cons (o := ({ dst := some 93, op := Op.load 2 (Operand.tmp 92), type := 2, pos := "ref.go:206", after := #[{ on := 7, ground := Ground.data }], guard := none } : Oper)) rfl (fun K hK => ?_) (AllReadyH.cons (o := ({ dst := some 102, op := Op.load 2 (Operand.tmp 101), type := 2, pos := "ref.go:206", after := #[{ on := 16, ground := Ground.data }], guard := none } : Oper)) rfl (fun K hK => ?_) AllReadyH.nil)
            · have c0 := P2.1
              have c1 := P2.2
              go_simp
              refine hK.out _ _ hH2 (fun _ => ?_)
              clear hK K c0 c1
              refine wpAnyH_ready (rs := [17]) (by kernel_rfl) (by simp) ?_
              refine AllReadyH.cons (o := ({ dst := some 102, op := Op.load 2 (Operand.tmp 101), type := 2, pos := "ref.go:206", after := #[{ on := 16, ground := Ground.data }], guard := none } : Oper)) rfl (fun K hK => ?_) AllReadyH.nil
              · have c0 := Q2.1
                have c1 := Q2.2
                go_simp
                refine hK.out _ _ hH2 (fun _ => ?_)
                clear hK K c0 c1
                refine wpAnyH_ready (rs := [18]) (by kernel_rfl) (by simp) ?_
                refine AllReadyH.cons (o := ({ dst := some 103, op := Op.call { callee := Callee.value (Operand.func 91), args := #[Operand.tmp 93, Operand.tmp 102], argTypes := #[2, 2] }, type := 96, pos := "ref.go:206", after := #[{ on := 8, ground := Ground.data }, { on := 17, ground := Ground.data }], guard := none } : Oper)) rfl (fun K hK => ?_) AllReadyH.nil
                · go_simp
                  go_at_call 91
                  refine (times_any _ _ _ (by assumption) (by assumption)).mono ?_
                  rintro e x ⟨rfl, j, rfl⟩
                  refine hK.out _ _ (HDR.out _ j hH2) (fun hH3 => ?_)
                  clear hK K
                  refine wpAnyH_take (i := 19) (oi := ({ dst := some 84, op := Op.move (Operand.tmp 103), type := 96, pos := "ref.go:206", after := #[{ on := 18, ground := Ground.data }], guard := none } : Oper)) (v := ?_) rfl (by kernel_rfl) (by kernel_rfl) (by kernel_rfl) (fun _ _ _ h => h) (Or.inl ⟨by rfl, ?_⟩) (by assumption) ?_
                  rotate_left
                  · (intro wz hSw; (try dsimp only at hSw); go_simp; try with_reducible rfl)
                  simp only [Act.put, List.setIfInBounds_toArray, List.set_cons_zero, List.set_cons_succ]
                  refine wpAnyH_take (i := 20) (oi := ({ dst := some 104, op := Op.extract (Operand.tmp 84) 0, type := 2, pos := "ref.go:206", after := #[{ on := 19, ground := Ground.data }], guard := none } : Oper)) (v := ?_) rfl (by kernel_rfl) (by kernel_rfl) (by kernel_rfl) (fun _ _ _ h => h) (Or.inl ⟨by rfl, ?_⟩) (by assumption) ?_
                  rotate_left
                  · (intro wz hSw; (try dsimp only at hSw); go_simp; try with_reducible rfl)
                  simp only [Act.put, List.setIfInBounds_toArray, List.set_cons_zero, List.set_cons_succ]
                  refine wpAnyH_take (i := 21) (oi := ({ dst := some 105, op := Op.extract (Operand.tmp 84) 1, type := 4, pos := "ref.go:206", after := #[{ on := 19, ground := Ground.data }, { on := 22, ground := Ground.gcOnly Departure.lateStores }], guard := none } : Oper)) (v := ?_) rfl (by kernel_rfl) (by kernel_rfl) (by kernel_rfl) (fun _ _ _ h => h) (Or.inl ⟨by rfl, ?_⟩) (by assumption) ?_
                  rotate_left
                  · (intro wz hSw; (try dsimp only at hSw); go_simp; try with_reducible rfl)
                  simp only [Act.put, List.setIfInBounds_toArray, List.set_cons_zero, List.set_cons_succ]
                  refine wpAnyH_take (i := 22) (oi := ({ dst := some 19, op := Op.assign (Operand.tmp 104), type := 2, pos := "ref.go:206", after := #[{ on := 20, ground := Ground.data }, { on := 18, ground := Ground.chain }, { on := 0, ground := Ground.phase }, { on := 1, ground := Ground.phase }, { on := 2, ground := Ground.phase }, { on := 3, ground := Ground.phase }, { on := 4, ground := Ground.phase }, { on := 5, ground := Ground.phase }, { on := 6, ground := Ground.phase }, { on := 7, ground := Ground.phase }, { on := 8, ground := Ground.phase }, { on := 9, ground := Ground.phase }, { on := 10, ground := Ground.phase }, { on := 11, ground := Ground.phase }, { on := 12, ground := Ground.phase }, { on := 13, ground := Ground.phase }, { on := 14, ground := Ground.phase }, { on := 15, ground := Ground.phase }, { on := 16, ground := Ground.phase }, { on := 17, ground := Ground.phase }, { on := 18, ground := Ground.phase }, { on := 19, ground := Ground.phase }, { on := 20, ground := Ground.phase }, { on := 21, ground := Ground.textOnly Departure.lateStores }], guard := none } : Oper)) (v := ?_) rfl (by kernel_rfl) (by kernel_rfl) (by kernel_rfl) (fun _ _ _ h => h) (Or.inl ⟨by rfl, ?_⟩) (by assumption) ?_
                  rotate_left
                  · (intro wz hSw; (try dsimp only at hSw); go_simp; try with_reducible rfl)
                  simp only [Act.put, List.setIfInBounds_toArray, List.set_cons_zero, List.set_cons_succ]
                  refine wpAnyH_take (i := 23) (oi := ({ dst := some 20, op := Op.assign (Operand.tmp 105), type := 4, pos := "ref.go:206", after := #[{ on := 21, ground := Ground.data }, { on := 22, ground := Ground.chain }, { on := 0, ground := Ground.phase }, { on := 1, ground := Ground.phase }, { on := 2, ground := Ground.phase }, { on := 3, ground := Ground.phase }, { on := 4, ground := Ground.phase }, { on := 5, ground := Ground.phase }, { on := 6, ground := Ground.phase }, { on := 7, ground := Ground.phase }, { on := 8, ground := Ground.phase }, { on := 9, ground := Ground.phase }, { on := 10, ground := Ground.phase }, { on := 11, ground := Ground.phase }, { on := 12, ground := Ground.phase }, { on := 13, ground := Ground.phase }, { on := 14, ground := Ground.phase }, { on := 15, ground := Ground.phase }, { on := 16, ground := Ground.phase }, { on := 17, ground := Ground.phase }, { on := 18, ground := Ground.phase }, { on := 19, ground := Ground.phase }, { on := 20, ground := Ground.phase }, { on := 21, ground := Ground.phase }, { on := 22, ground := Ground.phase }], guard := none } : Oper)) (v := ?_) rfl (by kernel_rfl) (by kernel_rfl) (by kernel_rfl) (fun _ _ _ h => h) (Or.inl ⟨by rfl, ?_⟩) (by assumption) ?_
                  rotate_left
                  · (intro wz hSw; (try dsimp only at hSw); go_simp; try with_reducible rfl)
                  simp only [Act.put, List.setIfInBounds_toArray, List.set_cons_zero, List.set_cons_succ]
                  refine wpAnyH_done (by kernel_rfl) ?_ _
                  go_wp2_with fail
                  go_meet
                  case rel => exact ⟨rfl, rfl, hH3.2.2.2.2.out⟩
            · have c0 := Q2.1
              have c1 := Q2.2
              go_simp
              refine hK.out _ _ hH2 (fun _ => ?_)
              clear hK K c0 c1
              refine wpAnyH_ready (rs := [8]) (by kernel_rfl) (by simp) ?_
              refine AllReadyH.cons (o := ({ dst := some 93, op := Op.load 2 (Operand.tmp 92), type := 2, pos := "ref.go:206", after := #[{ on := 7, ground := Ground.data }], guard := none } : Oper)) rfl (fun K hK => ?_) AllReadyH.nil
              · have c0 := P2.1
                have c1 := P2.2
                go_simp
                refine hK.out _ _ hH2 (fun _ => ?_)
                clear hK K c0 c1
                refine wpAnyH_ready (rs := [18]) (by kernel_rfl) (by simp) ?_
                refine AllReadyH.cons (o := ({ dst := some 103, op := Op.call { callee := Callee.value (Operand.func 91), args := #[Operand.tmp 93, Operand.tmp 102], argTypes := #[2, 2] }, type := 96, pos := "ref.go:206", after := #[{ on := 8, ground := Ground.data }, { on := 17, ground := Ground.data }], guard := none } : Oper)) rfl (fun K hK => ?_) AllReadyH.nil
                · go_simp
                  go_at_call 91
                  refine (times_any _ _ _ (by assumption) (by assumption)).mono ?_
                  rintro e x ⟨rfl, j, rfl⟩
                  refine hK.out _ _ (HDR.out _ j hH2) (fun hH3 => ?_)
                  clear hK K
                  refine wpAnyH_take (i := 19) (oi := ({ dst := some 84, op := Op.move (Operand.tmp 103), type := 96, pos := "ref.go:206", after := #[{ on := 18, ground := Ground.data }], guard := none } : Oper)) (v := ?_) rfl (by kernel_rfl) (by kernel_rfl) (by kernel_rfl) (fun _ _ _ h => h) (Or.inl ⟨by rfl, ?_⟩) (by assumption) ?_
                  rotate_left
                  · (intro wz hSw; (try dsimp only at hSw); go_simp; try with_reducible rfl)
                  simp only [Act.put, List.setIfInBounds_toArray, List.set_cons_zero, List.set_cons_succ]
                  refine wpAnyH_take (i := 20) (oi := ({ dst := some 104, op := Op.extract (Operand.tmp 84) 0, type := 2, pos := "ref.go:206", after := #[{ on := 19, ground := Ground.data }], guard := none } : Oper)) (v := ?_) rfl (by kernel_rfl) (by kernel_rfl) (by kernel_rfl) (fun _ _ _ h => h) (Or.inl ⟨by rfl, ?_⟩) (by assumption) ?_
                  rotate_left
                  · (intro wz hSw; (try dsimp only at hSw); go_simp; try with_reducible rfl)
                  simp only [Act.put, List.setIfInBounds_toArray, List.set_cons_zero, List.set_cons_succ]
                  refine wpAnyH_take (i := 21) (oi := ({ dst := some 105, op := Op.extract (Operand.tmp 84) 1, type := 4, pos := "ref.go:206", after := #[{ on := 19, ground := Ground.data }, { on := 22, ground := Ground.gcOnly Departure.lateStores }], guard := none } : Oper)) (v := ?_) rfl (by kernel_rfl) (by kernel_rfl) (by kernel_rfl) (fun _ _ _ h => h) (Or.inl ⟨by rfl, ?_⟩) (by assumption) ?_
                  rotate_left
                  · (intro wz hSw; (try dsimp only at hSw); go_simp; try with_reducible rfl)
                  simp only [Act.put, List.setIfInBounds_toArray, List.set_cons_zero, List.set_cons_succ]
                  refine wpAnyH_take (i := 22) (oi := ({ dst := some 19, op := Op.assign (Operand.tmp 104), type := 2, pos := "ref.go:206", after := #[{ on := 20, ground := Ground.data }, { on := 18, ground := Ground.chain }, { on := 0, ground := Ground.phase }, { on := 1, ground := Ground.phase }, { on := 2, ground := Ground.phase }, { on := 3, ground := Ground.phase }, { on := 4, ground := Ground.phase }, { on := 5, ground := Ground.phase }, { on := 6, ground := Ground.phase }, { on := 7, ground := Ground.phase }, { on := 8, ground := Ground.phase }, { on := 9, ground := Ground.phase }, { on := 10, ground := Ground.phase }, { on := 11, ground := Ground.phase }, { on := 12, ground := Ground.phase }, { on := 13, ground := Ground.phase }, { on := 14, ground := Ground.phase }, { on := 15, ground := Ground.phase }, { on := 16, ground := Ground.phase }, { on := 17, ground := Ground.phase }, { on := 18, ground := Ground.phase }, { on := 19, ground := Ground.phase }, { on := 20, ground := Ground.phase }, { on := 21, ground := Ground.textOnly Departure.lateStores }], guard := none } : Oper)) (v := ?_) rfl (by kernel_rfl) (by kernel_rfl) (by kernel_rfl) (fun _ _ _ h => h) (Or.inl ⟨by rfl, ?_⟩) (by assumption) ?_
                  rotate_left
                  · (intro wz hSw; (try dsimp only at hSw); go_simp; try with_reducible rfl)
                  simp only [Act.put, List.setIfInBounds_toArray, List.set_cons_zero, List.set_cons_succ]
                  refine wpAnyH_take (i := 23) (oi := ({ dst := some 20, op := Op.assign (Operand.tmp 105), type := 4, pos := "ref.go:206", after := #[{ on := 21, ground := Ground.data }, { on := 22, ground := Ground.chain }, { on := 0, ground := Ground.phase }, { on := 1, ground := Ground.phase }, { on := 2, ground := Ground.phase }, { on := 3, ground := Ground.phase }, { on := 4, ground := Ground.phase }, { on := 5, ground := Ground.phase }, { on := 6, ground := Ground.phase }, { on := 7, ground := Ground.phase }, { on := 8, ground := Ground.phase }, { on := 9, ground := Ground.phase }, { on := 10, ground := Ground.phase }, { on := 11, ground := Ground.phase }, { on := 12, ground := Ground.phase }, { on := 13, ground := Ground.phase }, { on := 14, ground := Ground.phase }, { on := 15, ground := Ground.phase }, { on := 16, ground := Ground.phase }, { on := 17, ground := Ground.phase }, { on := 18, ground := Ground.phase }, { on := 19, ground := Ground.phase }, { on := 20, ground := Ground.phase }, { on := 21, ground := Ground.phase }, { on := 22, ground := Ground.phase }], guard := none } : Oper)) (v := ?_) rfl (by kernel_rfl) (by kernel_rfl) (by kernel_rfl) (fun _ _ _ h => h) (Or.inl ⟨by rfl, ?_⟩) (by assumption) ?_
                  rotate_left
                  · (intro wz hSw; (try dsimp only at hSw); go_simp; try with_reducible rfl)
                  simp only [Act.put, List.setIfInBounds_toArray, List.set_cons_zero, List.set_cons_succ]
                  refine wpAnyH_done (by kernel_rfl) ?_ _
                  go_wp2_with fail
                  go_meet
                  case rel => exact ⟨rfl, rfl, hH3.2.2.2.2.out⟩
        · go_simp
          have Q1 := Bx.new w0 b.1 b.2 2
          refine hK.out _ _ (HAL.out _ _ hH0) (fun hH1 => ?_)
          clear hK K
          obtain ⟨w1, hw1⟩ : ∃ w1, w1 = (w0.alloc (.cells #[.int .i64 b.1, .int .i64 b.2] 2)) := ⟨_, rfl⟩
          rw [← hw1] at hH1 Q1 ⊢
          clear hw1
          generalize w0.heap.size = kQ at *
          refine wpAnyH_take (i := 16) (oi := ({ dst := some 101, op := Op.indexAddr 82 (Operand.tmp 98) (Operand.tmp 100), type := 0, pos := "ref.go:206", after := #[{ on := 13, ground := Ground.data }, { on := 15, ground := Ground.data }], guard := none } : Oper)) (v := ?_) rfl (by kernel_rfl) (by kernel_rfl) (by kernel_rfl) (fun _ _ _ h => h) (Or.inl ⟨by rfl, ?_⟩) (by assumption) ?_
          rotate_left
          · (intro wz hSw; (try dsimp only at hSw); go_simp; try with_reducible rfl)
          simp only [Act.put, List.setIfInBounds_toArray, List.set_cons_zero, List.set_cons_succ]
          refine wpAnyH_ready (rs := [4, 17]) (by kernel_rfl) (by simp) ?_
          refine AllReadyH.cons (o := ({ dst := some 89, op := Op.buildSlice 82 2 #[(0, Operand.tmp 86), (1, Operand.tmp 88)], type := 82, pos := "ref.go:206", after := #[{ on := 1, ground := Ground.data }, { on := 3, ground := Ground.data }], guard := none } : Oper)) rfl (fun K hK => ?_) (AllReadyH.cons (o := ({ dst := some 102, op := Op.load 2 (Operand.tmp 101), type := 2, pos := "ref.go:206", after := #[{ on := 16, ground := Ground.data }], guard := none } : Oper)) rfl (fun K hK => ?_) AllReadyH.nil)
          · go_simp
            have P2 := Bx.new w1 a.1 a.2 2
            have Q2 := Q1.keep ((Below.refl _ _).alloc (Nat.le_refl _) (.cells #[.int .i64 a.1, .int .i64 a.2] 2))
            refine hK.out _ _ (HAL.out _ _ hH1) (fun hH2 => ?_)
            clear hK K
            obtain ⟨w2, hw2⟩ : ∃ w2, w2 = (w1.alloc (.cells #[.int .i64 a.1, .int .i64 a.2] 2)) := ⟨_, rfl⟩
            rw [← hw2] at hH2 Q2 P2 ⊢
            clear hw2
            generalize w1.heap.size = kP at *
            refine wpAnyH_take (i := 7) (oi := ({ dst := some 92, op := Op.indexAddr 82 (Operand.tmp 89) (Operand.tmp 91), type := 0, pos := "ref.go:206", after := #[{ on := 4, ground := Ground.data }, { on := 6, ground := Ground.data }], guard := none } : Oper)) (v := ?_) rfl (by kernel_rfl) (by kernel_rfl) (by kernel_rfl) (fun _ _ _ h => h) (Or.inl ⟨by rfl, ?_⟩) (by assumption) ?_
            rotate_left
            · (intro wz hSw; (try dsimp only at hSw); go_simp; try with_reducible rfl)
            simp only [Act.put, List.setIfInBounds_toArray, List.set_cons_zero, List.set_cons_succ]
            refine wpAnyH_ready (rs := [8, 17]) (by kernel_rfl) (by simp) ?_
            refine AllReadyH.cons (o := ({ dst := some 93, op := Op.load 2 (Operand.tmp 92), type := 2, pos := "ref.go:206", after := #[{ on := 7, ground := Ground.data }], guard := none } : Oper)) rfl (fun K hK => ?_) (AllReadyH.cons (o := ({ dst := some 102, op := Op.load 2 (Operand.tmp 101), type := 2, pos := "ref.go:206", after := #[{ on := 16, ground := Ground.data }], guard := none } : Oper)) rfl (fun K hK => ?_) AllReadyH.nil)
            · have c0 := P2.1
              have c1 := P2.2
              go_simp
              refine hK.out _ _ hH2 (fun _ => ?_)
              clear hK K c0 c1
              refine wpAnyH_ready (rs := [17]) (by kernel_rfl) (by simp) ?_
              refine AllReadyH.cons (o := ({ dst := some 102, op := Op.load 2 (Operand.tmp 101), type := 2, pos := "ref.go:206", after := #[{ on := 16, ground := Ground.data }], guard := none } : Oper)) rfl (fun K hK => ?_) AllReadyH.nil
              · have c0 := Q2.1
                have c1 := Q2.2
                go_simp
                refine hK.out _ _ hH2 (fun _ => ?_)
                clear hK K c0 c1
                refine wpAnyH_ready (rs := [18]) (by kernel_rfl) (by simp) ?_
                refine AllReadyH.cons (o := ({ dst := some 103, op := Op.call { callee := Callee.value (Operand.func 91), args := #[Operand.tmp 93, Operand.tmp 102], argTypes := #[2, 2] }, type := 96, pos := "ref.go:206", after := #[{ on := 8, ground := Ground.data }, { on := 17, ground := Ground.data }], guard := none } : Oper)) rfl (fun K hK => ?_) AllReadyH.nil
                · go_simp
                  go_at_call 91
                  refine (times_any _ _ _ (by assumption) (by assumption)).mono ?_
                  rintro e x ⟨rfl, j, rfl⟩
                  refine hK.out _ _ (HDR.out _ j hH2) (fun hH3 => ?_)
                  clear hK K
                  refine wpAnyH_take (i := 19) (oi := ({ dst := some 84, op := Op.move (Operand.tmp 103), type := 96, pos := "ref.go:206", after := #[{ on := 18, ground := Ground.data }], guard := none } : Oper)) (v := ?_) rfl (by kernel_rfl) (by kernel_rfl) (by kernel_rfl) (fun _ _ _ h => h) (Or.inl ⟨by rfl, ?_⟩) (by assumption) ?_
                  rotate_left
                  · (intro wz hSw; (try dsimp only at hSw); go_simp; try with_reducible rfl)
                  simp only [Act.put, List.setIfInBounds_toArray, List.set_cons_zero, List.set_cons_succ]
                  refine wpAnyH_take (i := 20) (oi := ({ dst := some 104, op := Op.extract (Operand.tmp 84) 0, type := 2, pos := "ref.go:206", after := #[{ on := 19, ground := Ground.data }], guard := none } : Oper)) (v := ?_) rfl (by kernel_rfl) (by kernel_rfl) (by kernel_rfl) (fun _ _ _ h => h) (Or.inl ⟨by rfl, ?_⟩) (by assumption) ?_
                  rotate_left
                  · (intro wz hSw; (try dsimp only at hSw); go_simp; try with_reducible rfl)
                  simp only [Act.put, List.setIfInBounds_toArray, List.set_cons_zero, List.set_cons_succ]
                  refine wpAnyH_take (i := 21) (oi := ({ dst := some 105, op := Op.extract (Operand.tmp 84) 1, type := 4, pos := "ref.go:206", after := #[{ on := 19, ground := Ground.data }, { on := 22, ground := Ground.gcOnly Departure.lateStores }], guard := none } : Oper)) (v := ?_) rfl (by kernel_rfl) (by kernel_rfl) (by kernel_rfl) (fun _ _ _ h => h) (Or.inl ⟨by rfl, ?_⟩) (by assumption) ?_
                  rotate_left
                  · (intro wz hSw; (try dsimp only at hSw); go_simp; try with_reducible rfl)
                  simp only [Act.put, List.setIfInBounds_toArray, List.set_cons_zero, List.set_cons_succ]
                  refine wpAnyH_take (i := 22) (oi := ({ dst := some 19, op := Op.assign (Operand.tmp 104), type := 2, pos := "ref.go:206", after := #[{ on := 20, ground := Ground.data }, { on := 18, ground := Ground.chain }, { on := 0, ground := Ground.phase }, { on := 1, ground := Ground.phase }, { on := 2, ground := Ground.phase }, { on := 3, ground := Ground.phase }, { on := 4, ground := Ground.phase }, { on := 5, ground := Ground.phase }, { on := 6, ground := Ground.phase }, { on := 7, ground := Ground.phase }, { on := 8, ground := Ground.phase }, { on := 9, ground := Ground.phase }, { on := 10, ground := Ground.phase }, { on := 11, ground := Ground.phase }, { on := 12, ground := Ground.phase }, { on := 13, ground := Ground.phase }, { on := 14, ground := Ground.phase }, { on := 15, ground := Ground.phase }, { on := 16, ground := Ground.phase }, { on := 17, ground := Ground.phase }, { on := 18, ground := Ground.phase }, { on := 19, ground := Ground.phase }, { on := 20, ground := Ground.phase }, { on := 21, ground := Ground.textOnly Departure.lateStores }], guard := none } : Oper)) (v := ?_) rfl (by kernel_rfl) (by kernel_rfl) (by kernel_rfl) (fun _ _ _ h => h) (Or.inl ⟨by rfl, ?_⟩) (by assumption) ?_
                  rotate_left
                  · (intro wz hSw; (try dsimp only at hSw); go_simp; try with_reducible rfl)
                  simp only [Act.put, List.setIfInBounds_toArray, List.set_cons_zero, List.set_cons_succ]
                  refine wpAnyH_take (i := 23) (oi := ({ dst := some 20, op := Op.assign (Operand.tmp 105), type := 4, pos := "ref.go:206", after := #[{ on := 21, ground := Ground.data }, { on := 22, ground := Ground.chain }, { on := 0, ground := Ground.phase }, { on := 1, ground := Ground.phase }, { on := 2, ground := Ground.phase }, { on := 3, ground := Ground.phase }, { on := 4, ground := Ground.phase }, { on := 5, ground := Ground.phase }, { on := 6, ground := Ground.phase }, { on := 7, ground := Ground.phase }, { on := 8, ground := Ground.phase }, { on := 9, ground := Ground.phase }, { on := 10, ground := Ground.phase }, { on := 11, ground := Ground.phase }, { on := 12, ground := Ground.phase }, { on := 13, ground := Ground.phase }, { on := 14, ground := Ground.phase }, { on := 15, ground := Ground.phase }, { on := 16, ground := Ground.phase }, { on := 17, ground := Ground.phase }, { on := 18, ground := Ground.phase }, { on := 19, ground := Ground.phase }, { on := 20, ground := Ground.phase }, { on := 21, ground := Ground.phase }, { on := 22, ground := Ground.phase }], guard := none } : Oper)) (v := ?_) rfl (by kernel_rfl) (by kernel_rfl) (by kernel_rfl) (fun _ _ _ h => h) (Or.inl ⟨by rfl, ?_⟩) (by assumption) ?_
                  rotate_left
                  · (intro wz hSw; (try dsimp only at hSw); go_simp; try with_reducible rfl)
                  simp only [Act.put, List.setIfInBounds_toArray, List.set_cons_zero, List.set_cons_succ]
                  refine wpAnyH_done (by kernel_rfl) ?_ _
                  go_wp2_with fail
                  go_meet
                  case rel => exact ⟨rfl, rfl, hH3.2.2.2.2.out⟩
            · have c0 := Q2.1
              have c1 := Q2.2
              go_simp
              refine hK.out _ _ hH2 (fun _ => ?_)
              clear hK K c0 c1
              refine wpAnyH_ready (rs := [8]) (by kernel_rfl) (by simp) ?_
              refine AllReadyH.cons (o := ({ dst := some 93, op := Op.load 2 (Operand.tmp 92), type := 2, pos := "ref.go:206", after := #[{ on := 7, ground := Ground.data }], guard := none } : Oper)) rfl (fun K hK => ?_) AllReadyH.nil
              · have c0 := P2.1
                have c1 := P2.2
                go_simp
                refine hK.out _ _ hH2 (fun _ => ?_)
                clear hK K c0 c1
                refine wpAnyH_ready (rs := [18]) (by kernel_rfl) (by simp) ?_
                refine AllReadyH.cons (o := ({ dst := some 103, op := Op.call { callee := Callee.value (Operand.func 91), args := #[Operand.tmp 93, Operand.tmp 102], argTypes := #[2, 2] }, type := 96, pos := "ref.go:206", after := #[{ on := 8, ground := Ground.data }, { on := 17, ground := Ground.data }], guard := none } : Oper)) rfl (fun K hK => ?_) AllReadyH.nil
                · go_simp
                  go_at_call 91
                  refine (times_any _ _ _ (by assumption) (by assumption)).mono ?_
                  rintro e x ⟨rfl, j, rfl⟩
                  refine hK.out _ _ (HDR.out _ j hH2) (fun hH3 => ?_)
                  clear hK K
                  refine wpAnyH_take (i := 19) (oi := ({ dst := some 84, op := Op.move (Operand.tmp 103), type := 96, pos := "ref.go:206", after := #[{ on := 18, ground := Ground.data }], guard := none } : Oper)) (v := ?_) rfl (by kernel_rfl) (by kernel_rfl) (by kernel_rfl) (fun _ _ _ h => h) (Or.inl ⟨by rfl, ?_⟩) (by assumption) ?_
                  rotate_left
                  · (intro wz hSw; (try dsimp only at hSw); go_simp; try with_reducible rfl)
                  simp only [Act.put, List.setIfInBounds_toArray, List.set_cons_zero, List.set_cons_succ]
                  refine wpAnyH_take (i := 20) (oi := ({ dst := some 104, op := Op.extract (Operand.tmp 84) 0, type := 2, pos := "ref.go:206", after := #[{ on := 19, ground := Ground.data }], guard := none } : Oper)) (v := ?_) rfl (by kernel_rfl) (by kernel_rfl) (by kernel_rfl) (fun _ _ _ h => h) (Or.inl ⟨by rfl, ?_⟩) (by assumption) ?_
                  rotate_left
                  · (intro wz hSw; (try dsimp only at hSw); go_simp; try with_reducible rfl)
                  simp only [Act.put, List.setIfInBounds_toArray, List.set_cons_zero, List.set_cons_succ]
                  refine wpAnyH_take (i := 21) (oi := ({ dst := some 105, op := Op.extract (Operand.tmp 84) 1, type := 4, pos := "ref.go:206", after := #[{ on := 19, ground := Ground.data }, { on := 22, ground := Ground.gcOnly Departure.lateStores }], guard := none } : Oper)) (v := ?_) rfl (by kernel_rfl) (by kernel_rfl) (by kernel_rfl) (fun _ _ _ h => h) (Or.inl ⟨by rfl, ?_⟩) (by assumption) ?_
                  rotate_left
                  · (intro wz hSw; (try dsimp only at hSw); go_simp; try with_reducible rfl)
                  simp only [Act.put, List.setIfInBounds_toArray, List.set_cons_zero, List.set_cons_succ]
                  refine wpAnyH_take (i := 22) (oi := ({ dst := some 19, op := Op.assign (Operand.tmp 104), type := 2, pos := "ref.go:206", after := #[{ on := 20, ground := Ground.data }, { on := 18, ground := Ground.chain }, { on := 0, ground := Ground.phase }, { on := 1, ground := Ground.phase }, { on := 2, ground := Ground.phase }, { on := 3, ground := Ground.phase }, { on := 4, ground := Ground.phase }, { on := 5, ground := Ground.phase }, { on := 6, ground := Ground.phase }, { on := 7, ground := Ground.phase }, { on := 8, ground := Ground.phase }, { on := 9, ground := Ground.phase }, { on := 10, ground := Ground.phase }, { on := 11, ground := Ground.phase }, { on := 12, ground := Ground.phase }, { on := 13, ground := Ground.phase }, { on := 14, ground := Ground.phase }, { on := 15, ground := Ground.phase }, { on := 16, ground := Ground.phase }, { on := 17, ground := Ground.phase }, { on := 18, ground := Ground.phase }, { on := 19, ground := Ground.phase }, { on := 20, ground := Ground.phase }, { on := 21, ground := Ground.textOnly Departure.lateStores }], guard := none } : Oper)) (v := ?_) rfl (by kernel_rfl) (by kernel_rfl) (by kernel_rfl) (fun _ _ _ h => h) (Or.inl ⟨by rfl, ?_⟩) (by assumption) ?_
                  rotate_left
                  · (intro wz hSw; (try dsimp only at hSw); go_simp; try with_reducible rfl)
                  simp only [Act.put, List.setIfInBounds_toArray, List.set_cons_zero, List.set_cons_succ]
                  refine wpAnyH_take (i := 23) (oi := ({ dst := some 20, op := Op.assign (Operand.tmp 105), type := 4, pos := "ref.go:206", after := #[{ on := 21, ground := Ground.data }, { on := 22, ground := Ground.chain }, { on := 0, ground := Ground.phase }, { on := 1, ground := Ground.phase }, { on := 2, ground := Ground.phase }, { on := 3, ground := Ground.phase }, { on := 4, ground := Ground.phase }, { on := 5, ground := Ground.phase }, { on := 6, ground := Ground.phase }, { on := 7, ground := Ground.phase }, { on := 8, ground := Ground.phase }, { on := 9, ground := Ground.phase }, { on := 10, ground := Ground.phase }, { on := 11, ground := Ground.phase }, { on := 12, ground := Ground.phase }, { on := 13, ground := Ground.phase }, { on := 14, ground := Ground.phase }, { on := 15, ground := Ground.phase }, { on := 16, ground := Ground.phase }, { on := 17, ground := Ground.phase }, { on := 18, ground := Ground.phase }, { on := 19, ground := Ground.phase }, { on := 20, ground := Ground.phase }, { on := 21, ground := Ground.phase }, { on := 22, ground := Ground.phase }], guard := none } : Oper)) (v := ?_) rfl (by kernel_rfl) (by kernel_rfl) (by kernel_rfl) (fun _ _ _ h => h) (Or.inl ⟨by rfl, ?_⟩) (by assumption) ?_
                  rotate_left
                  · (intro wz hSw; (try dsimp only at hSw); go_simp; try with_reducible rfl)
                  simp only [Act.put, List.setIfInBounds_toArray, List.set_cons_zero, List.set_cons_succ]
                  refine wpAnyH_done (by kernel_rfl) ?_ _
                  go_wp2_with fail
                  go_meet
                  case rel => exact ⟨rfl, rfl, hH3.2.2.2.2.out⟩
          · have c0 := Q1.1
            have c1 := Q1.2
            go_simp
            refine hK.out _ _ hH1 (fun _ => ?_)
            clear hK K c0 c1
            refine wpAnyH_ready (rs := [4]) (by kernel_rfl) (by simp) ?_
            refine AllReadyH.cons (o := ({ dst := some 89, op := Op.buildSlice 82 2 #[(0, Operand.tmp 86), (1, Operand.tmp 88)], type := 82, pos := "ref.go:206", after := #[{ on := 1, ground := Ground.data }, { on := 3, ground := Ground.data }], guard := none } : Oper)) rfl (fun K hK => ?_) AllReadyH.nil
            · go_simp
              have P2 := Bx.new w1 a.1 a.2 2
              have Q2 := Q1.keep ((Below.refl _ _).alloc (Nat.le_refl _) (.cells #[.int .i64 a.1, .int .i64 a.2] 2))
              refine hK.out _ _ (HAL.out _ _ hH1) (fun hH2 => ?_)
              clear hK K
              obtain ⟨w2, hw2⟩ : ∃ w2, w2 = (w1.alloc (.cells #[.int .i64 a.1, .int .i64 a.2] 2)) := ⟨_, rfl⟩
              rw [← hw2] at hH2 Q2 P2 ⊢
              clear hw2
              generalize w1.heap.size = kP at *
              refine wpAnyH_take (i := 7) (oi := ({ dst := some 92, op := Op.indexAddr 82 (Operand.tmp 89) (Operand.tmp 91), type := 0, pos := "ref.go:206", after := #[{ on := 4, ground := Ground.data }, { on := 6, ground := Ground.data }], guard := none } : Oper)) (v := ?_) rfl (by kernel_rfl) (by kernel_rfl) (by kernel_rfl) (fun _ _ _ h => h) (Or.inl ⟨by rfl, ?_⟩) (by assumption) ?_
              rotate_left
              · (intro wz hSw; (try dsimp only at hSw); go_simp; try with_reducible rfl)
              simp only [Act.put, List.setIfInBounds_toArray, List.set_cons_zero, List.set_cons_succ]
              refine wpAnyH_ready (rs := [8]) (by kernel_rfl) (by simp) ?_
              refine AllReadyH.cons (o := ({ dst := some 93, op := Op.load 2 (Operand.tmp 92), type := 2, pos := "ref.go:206", after := #[{ on := 7, ground := Ground.data }], guard := none } : Oper)) rfl (fun K hK => ?_) AllReadyH.nil
              · have c0 := P2.1
                have c1 := P2.2
                go_simp
                refine hK.out _ _ hH2 (fun _ => ?_)
                clear hK K c0 c1
                refine wpAnyH_ready (rs := [18]) (by kernel_rfl) (by simp) ?_
                refine AllReadyH.cons (o := ({ dst := some 103, op := Op.call { callee := Callee.value (Operand.func 91), args := #[Operand.tmp 93, Operand.tmp 102], argTypes := #[2, 2] }, type := 96, pos := "ref.go:206", after := #[{ on := 8, ground := Ground.data }, { on := 17, ground := Ground.data }], guard := none } : Oper)) rfl (fun K hK => ?_) AllReadyH.nil
                · go_simp
                  go_at_call 91
                  refine (times_any _ _ _ (by assumption) (by assumption)).mono ?_
                  rintro e x ⟨rfl, j, rfl⟩
                  refine hK.out _ _ (HDR.out _ j hH2) (fun hH3 => ?_)
                  clear hK K
                  refine wpAnyH_take (i := 19) (oi := ({ dst := some 84, op := Op.move (Operand.tmp 103), type := 96, pos := "ref.go:206", after := #[{ on := 18, ground := Ground.data }], guard := none } : Oper)) (v := ?_) rfl (by kernel_rfl) (by kernel_rfl) (by kernel_rfl) (fun _ _ _ h => h) (Or.inl ⟨by rfl, ?_⟩) (by assumption) ?_
                  rotate_left
                  · (intro wz hSw; (try dsimp only at hSw); go_simp; try with_reducible rfl)
                  simp only [Act.put, List.setIfInBounds_toArray, List.set_cons_zero, List.set_cons_succ]
                  refine wpAnyH_take (i := 20) (oi := ({ dst := some 104, op := Op.extract (Operand.tmp 84) 0, type := 2, pos := "ref.go:206", after := #[{ on := 19, ground := Ground.data }], guard := none } : Oper)) (v := ?_) rfl (by kernel_rfl) (by kernel_rfl) (by kernel_rfl) (fun _ _ _ h => h) (Or.inl ⟨by rfl, ?_⟩) (by assumption) ?_
                  rotate_left
                  · (intro wz hSw; (try dsimp only at hSw); go_simp; try with_reducible rfl)
                  simp only [Act.put, List.setIfInBounds_toArray, List.set_cons_zero, List.set_cons_succ]
                  refine wpAnyH_take (i := 21) (oi := ({ dst := some 105, op := Op.extract (Operand.tmp 84) 1, type := 4, pos := "ref.go:206", after := #[{ on := 19, ground := Ground.data }, { on := 22, ground := Ground.gcOnly Departure.lateStores }], guard := none } : Oper)) (v := ?_) rfl (by kernel_rfl) (by kernel_rfl) (by kernel_rfl) (fun _ _ _ h => h) (Or.inl ⟨by rfl, ?_⟩) (by assumption) ?_
                  rotate_left
                  · (intro wz hSw; (try dsimp only at hSw); go_simp; try with_reducible rfl)
                  simp only [Act.put, List.setIfInBounds_toArray, List.set_cons_zero, List.set_cons_succ]
                  refine wpAnyH_take (i := 22) (oi := ({ dst := some 19, op := Op.assign (Operand.tmp 104), type := 2, pos := "ref.go:206", after := #[{ on := 20, ground := Ground.data }, { on := 18, ground := Ground.chain }, { on := 0, ground := Ground.phase }, { on := 1, ground := Ground.phase }, { on := 2, ground := Ground.phase }, { on := 3, ground := Ground.phase }, { on := 4, ground := Ground.phase }, { on := 5, ground := Ground.phase }, { on := 6, ground := Ground.phase }, { on := 7, ground := Ground.phase }, { on := 8, ground := Ground.phase }, { on := 9, ground := Ground.phase }, { on := 10, ground := Ground.phase }, { on := 11, ground := Ground.phase }, { on := 12, ground := Ground.phase }, { on := 13, ground := Ground.phase }, { on := 14, ground := Ground.phase }, { on := 15, ground := Ground.phase }, { on := 16, ground := Ground.phase }, { on := 17, ground := Ground.phase }, { on := 18, ground := Ground.phase }, { on := 19, ground := Ground.phase }, { on := 20, ground := Ground.phase }, { on := 21, ground := Ground.textOnly Departure.lateStores }], guard := none } : Oper)) (v := ?_) rfl (by kernel_rfl) (by kernel_rfl) (by kernel_rfl) (fun _ _ _ h => h) (Or.inl ⟨by rfl, ?_⟩) (by assumption) ?_
                  rotate_left
                  · (intro wz hSw; (try dsimp only at hSw); go_simp; try with_reducible rfl)
                  simp only [Act.put, List.setIfInBounds_toArray, List.set_cons_zero, List.set_cons_succ]
                  refine wpAnyH_take (i := 23) (oi := ({ dst := some 20, op := Op.assign (Operand.tmp 105), type := 4, pos := "ref.go:206", after := #[{ on := 21, ground := Ground.data }, { on := 22, ground := Ground.chain }, { on := 0, ground := Ground.phase }, { on := 1, ground := Ground.phase }, { on := 2, ground := Ground.phase }, { on := 3, ground := Ground.phase }, { on := 4, ground := Ground.phase }, { on := 5, ground := Ground.phase }, { on := 6, ground := Ground.phase }, { on := 7, ground := Ground.phase }, { on := 8, ground := Ground.phase }, { on := 9, ground := Ground.phase }, { on := 10, ground := Ground.phase }, { on := 11, ground := Ground.phase }, { on := 12, ground := Ground.phase }, { on := 13, ground := Ground.phase }, { on := 14, ground := Ground.phase }, { on := 15, ground := Ground.phase }, { on := 16, ground := Ground.phase }, { on := 17, ground := Ground.phase }, { on := 18, ground := Ground.phase }, { on := 19, ground := Ground.phase }, { on := 20, ground := Ground.phase }, { on := 21, ground := Ground.phase }, { on := 22, ground := Ground.phase }], guard := none } : Oper)) (v := ?_) rfl (by kernel_rfl) (by kernel_rfl) (by kernel_rfl) (fun _ _ _ h => h) (Or.inl ⟨by rfl, ?_⟩) (by assumption) ?_
                  rotate_left
                  · (intro wz hSw; (try dsimp only at hSw); go_simp; try with_reducible rfl)
                  simp only [Act.put, List.setIfInBounds_toArray, List.set_cons_zero, List.set_cons_succ]
                  refine wpAnyH_done (by kernel_rfl) ?_ _
                  go_wp2_with fail
                  go_meet
                  case rel => exact ⟨rfl, rfl, hH3.2.2.2.2.out⟩
      case rest =>
        obtain ⟨rfl, rfl, hS2⟩ := hcut
        clear HB HAL HDR hS1
        go_wp2_with (at_builtin; refine wpList_app1 W5 _ rfl (.tmp 106) (.tmp 108) rfl _ [] (wrap64 (a.1 * b.1)) hS2.out rfl rfl (Nat.le_of_ble_eq_true rfl) ?_; intro p2 c2 w2 hS3; replace hS3 := (hide hS3))
        go_round
        case rel => exact Or.inr (Or.inl ⟨rfl, by simp, hS3.out⟩)
        case measure => simp [intOf]
    · obtain ⟨p1, c1, rfl⟩ := (hS.out).slice
      have HB : Hid (∀ w2 : World, St W5 w2 (.slice p1 1 c1) [(wrap64 (a.1 * b.1))] → (w2.cell? ⟨A, 0, none⟩ = some (.int .i64 a.1) ∧ w2.cell? ⟨A, 1, none⟩ = some (.int .i64 a.2) ∧ w2.cell? ⟨A + 1, 0, none⟩ = some (.int .i64 b.1) ∧ w2.cell? ⟨A + 1, 1, none⟩ = some (.int .i64 b.2) ∧ Hid (St W5 w2 (.slice p1 1 c1) [(wrap64 (a.1 * b.1))]))) := fun w2 h => by
        have x := HX5.out.keep h.bel
        exact ⟨x.xa.1, x.xa.2, x.xb.1, x.xb.2, h⟩
      have HAL : Hid (∀ (w2 : World) (o : Obj), (w2.cell? ⟨A, 0, none⟩ = some (.int .i64 a.1) ∧ w2.cell? ⟨A, 1, none⟩ = some (.int .i64 a.2) ∧ w2.cell? ⟨A + 1, 0, none⟩ = some (.int .i64 b.1) ∧ w2.cell? ⟨A + 1, 1, none⟩ = some (.int .i64 b.2) ∧ Hid (St W5 w2 (.slice p1 1 c1) [(wrap64 (a.1 * b.1))])) → ((w2.alloc o).cell? ⟨A, 0, none⟩ = some (.int .i64 a.1) ∧ (w2.alloc o).cell? ⟨A, 1, none⟩ = some (.int .i64 a.2) ∧ (w2.alloc o).cell? ⟨A + 1, 0, none⟩ = some (.int .i64 b.1) ∧ (w2.alloc o).cell? ⟨A + 1, 1, none⟩ = some (.int .i64 b.2) ∧ Hid (St W5 (w2.alloc o) (.slice p1 1 c1) [(wrap64 (a.1 * b.1))]))) := fun w2 o h => HB.out _ (h.2.2.2.2.out.alloc o)
      have HDR : Hid (∀ (w2 : World) (j : Nat), (w2.cell? ⟨A, 0, none⟩ = some (.int .i64 a.1) ∧ w2.cell? ⟨A, 1, none⟩ = some (.int .i64 a.2) ∧ w2.cell? ⟨A + 1, 0, none⟩ = some (.int .i64 b.1) ∧ w2.cell? ⟨A + 1, 1, none⟩ = some (.int .i64 b.2) ∧ Hid (St W5 w2 (.slice p1 1 c1) [(wrap64 (a.1 * b.1))])) → ((w2.drewN j).cell? ⟨A, 0, none⟩ = some (.int .i64 a.1) ∧ (w2.drewN j).cell? ⟨A, 1, none⟩ = some (.int .i64 a.2) ∧ (w2.drewN j).cell? ⟨A + 1, 0, none⟩ = some (.int .i64 b.1) ∧ (w2.drewN j).cell? ⟨A + 1, 1, none⟩ = some (.int .i64 b.2) ∧ Hid (St W5 (w2.drewN j) (.slice p1 1 c1) [(wrap64 (a.1 * b.1))]))) := fun w2 j h => HB.out _ (h.2.2.2.2.out.drewN j)
      have hS1 : Hid (St W5 wr (.slice p1 1 c1) [(wrap64 (a.1 * b.1))]) := hS.out
      clear hS
      go_upto_region 16 with fail
      go_cut [19, 20] from 80 to 113 (fun v19 v20 wy => v19 = .int .i64 (wrap64 (a.1 * b.2)) ∧ v20 = .bool (fit (a.1 * b.2)) ∧ Hid (St W5 wy (.slice p1 1 c1) [(wrap64 (a.1 * b.1))]))
      case first =>
        refine wp_region_held_drew (S := fun w' => w'.cell? ⟨A, 0, none⟩ = some (.int .i64 a.1) ∧ w'.cell? ⟨A, 1, none⟩ = some (.int .i64 a.2) ∧ w'.cell? ⟨A + 1, 0, none⟩ = some (.int .i64 b.1) ∧ w'.cell? ⟨A + 1, 1, none⟩ = some (.int .i64 b.2) ∧ Hid (St W5 w' (.slice p1 1 c1) [(wrap64 (a.1 * b.1))])) (by kernel_rfl) (HDR.out wr 1 (HB.out _ hS1.out)) (fun hH0 => ?_)
        obtain ⟨w0, hw0⟩ : ∃ w0, w0 = wr.drew := ⟨_, rfl⟩
        rw [← hw0] at hH0 ⊢
        clear hw0
        refine wpAnyH_take (i := 0) (oi := ({ dst := some 85, op := Op.fieldAddr 25 (Operand.tmp 4) 0, type := 0, pos := "ref.go:206", after := #[], guard := none } : Oper)) (v := ?_) rfl (by kernel_rfl) (by kernel_rfl) (by kernel_rfl) (fun _ _ _ h => h) (Or.inl ⟨by rfl, ?_⟩) (by assumption) ?_
        rotate_left
        · (intro wz hSw; (try dsimp only at hSw); go_simp; try with_reducible rfl)
        simp only [Act.put, List.setIfInBounds_toArray, List.set_cons_zero, List.set_cons_succ]
        refine wpAnyH_take (i := 1) (oi := ({ dst := some 86, op := Op.load 2 (Operand.tmp 85), type := 2, pos := "ref.go:206", after := #[{ on := 0, ground := Ground.data }], guard := none } : Oper)) (v := ?_) rfl (by kernel_rfl) (by kernel_rfl) (by kernel_rfl) (fun _ _ _ h => h) (Or.inl ⟨by rfl, ?_⟩) (by assumption) ?_
        rotate_left
        · (intro wz hSw; (try dsimp only at hSw); go_simp; try with_reducible rfl)
        simp only [Act.put, List.setIfInBounds_toArray, List.set_cons_zero, List.set_cons_succ]
        refine wpAnyH_take (i := 2) (oi := ({ dst := some 87, op := Op.fieldAddr 25 (Operand.tmp 4) 1, type := 0, pos := "ref.go:206", after := #[], guard := none } : Oper)) (v := ?_) rfl (by kernel_rfl) (by kernel_rfl) (by kernel_rfl) (fun _ _ _ h => h) (Or.inl ⟨by rfl, ?_⟩) (by assumption) ?_
        rotate_left
        · (intro wz hSw; (try dsimp only at hSw); go_simp; try with_reducible rfl)
        simp only [Act.put, List.setIfInBounds_toArray, List.set_cons_zero, List.set_cons_succ]
        refine wpAnyH_take (i := 3) (oi := ({ dst := some 88, op := Op.load 2 (Operand.tmp 87), type := 2, pos := "ref.go:206", after := #[{ on := 2, ground := Ground.data }], guard := none } : Oper)) (v := ?_) rfl (by kernel_rfl) (by kernel_rfl) (by kernel_rfl) (fun _ _ _ h => h) (Or.inl ⟨by rfl, ?_⟩) (by assumption) ?_
        rotate_left
        · (intro wz hSw; (try dsimp only at hSw); go_simp; try with_reducible rfl)
        simp only [Act.put, List.setIfInBounds_toArray, List.set_cons_zero, List.set_cons_succ]
        refine wpAnyH_take (i := 5) (oi := ({ dst := some 90, op := Op.move (Operand.tmp 18), type := 3, pos := "ref.go:206", after := #[], guard := none } : Oper)) (v := ?_) rfl (by kernel_rfl) (by kernel_rfl) (by kernel_rfl) (fun _ _ _ h => h) (Or.inl ⟨by rfl, ?_⟩) (by assumption) ?_
        rotate_left
        · (intro wz hSw; (try dsimp only at hSw); go_simp; try with_reducible rfl)
        simp only [Act.put, List.setIfInBounds_toArray, List.set_cons_zero, List.set_cons_succ]
        refine wpAnyH_take (i := 6) (oi := ({ dst := some 91, op := Op.binOp BinOp.quo 3 (Operand.tmp 90) (Operand.const (Value.int IntKind.i64 2)) 3, type := 3, pos := "ref.go:206", after := #[{ on := 5, ground := Ground.data }], guard := none } : Oper)) (v := ?_) rfl (by kernel_rfl) (by kernel_rfl) (by kernel_rfl) (fun _ _ _ h => h) (Or.inl ⟨by rfl, ?_⟩) (by assumption) ?_
        rotate_left
        · (intro wz hSw; (try dsimp only at hSw); go_simp; try with_reducible rfl)
        simp only [Act.put, List.setIfInBounds_toArray, List.set_cons_zero, List.set_cons_succ]
        refine wpAnyH_take (i := 9) (oi := ({ dst := some 94, op := Op.fieldAddr 25 (Operand.tmp 5) 0, type := 0, pos := "ref.go:206", after := #[], guard := none } : Oper)) (v := ?_) rfl (by kernel_rfl) (by kernel_rfl) (by kernel_rfl) (fun _ _ _ h => h) (Or.inl ⟨by rfl, ?_⟩) (by assumption) ?_
        rotate_left
        · (intro wz hSw; (try dsimp only at hSw); go_simp; try with_reducible rfl)
        simp only [Act.put, List.setIfInBounds_toArray, List.set_cons_zero, List.set_cons_succ]
        refine wpAnyH_take (i := 10) (oi := ({ dst := some 95, op := Op.load 2 (Operand.tmp 94), type := 2, pos := "ref.go:206", after := #[{ on := 9, ground := Ground.data }], guard := none } : Oper)) (v := ?_) rfl (by kernel_rfl) (by kernel_rfl) (by kernel_rfl) (fun _ _ _ h => h) (Or.inl ⟨by rfl, ?_⟩) (by assumption) ?_
        rotate_left
        · (intro wz hSw; (try dsimp only at hSw); go_simp; try with_reducible rfl)
        simp only [Act.put, List.setIfInBounds_toArray, List.set_cons_zero, List.set_cons_succ]
        refine wpAnyH_take (i := 11) (oi := ({ dst := some 96, op := Op.fieldAddr 25 (Operand.tmp 5) 1, type := 0, pos := "ref.go:206", after := #[], guard := none } : Oper)) (v := ?_) rfl (by kernel_rfl) (by kernel_rfl) (by kernel_rfl) (fun _ _ _ h => h) (Or.inl ⟨by rfl, ?_⟩) (by assumption) ?_
        rotate_left
        · (intro wz hSw; (try dsimp only at hSw); go_simp; try with_reducible rfl)
        simp only [Act.put, List.setIfInBounds_toArray, List.set_cons_zero, List.set_cons_succ]
        refine wpAnyH_take (i := 12) (oi := ({ dst := some 97, op := Op.load 2 (Operand.tmp 96), type := 2, pos := "ref.go:206", after := #[{ on := 11, ground := Ground.data }], guard := none } : Oper)) (v := ?_) rfl (by kernel_rfl) (by kernel_rfl) (by kernel_rfl) (fun _ _ _ h => h) (Or.inl ⟨by rfl, ?_⟩) (by assumption) ?_
        rotate_left
        · (intro wz hSw; (try dsimp only at hSw); go_simp; try with_reducible rfl)
        simp only [Act.put, List.setIfInBounds_toArray, List.set_cons_zero, List.set_cons_succ]
        refine wpAnyH_take (i := 14) (oi := ({ dst := some 99, op := Op.move (Operand.tmp 18), type := 3, pos := "ref.go:206", after := #[], guard := none } : Oper)) (v := ?_) rfl (by kernel_rfl) (by kernel_rfl) (by kernel_rfl) (fun _ _ _ h => h) (Or.inl ⟨by rfl, ?_⟩) (by assumption) ?_
        rotate_left
        · (intro wz hSw; (try dsimp only at hSw); go_simp; try with_reducible rfl)
        simp only [Act.put, List.setIfInBounds_toArray, List.set_cons_zero, List.set_cons_succ]
        refine wpAnyH_take (i := 15) (oi := ({ dst := some 100, op := Op.binOp BinOp.rem 3 (Operand.tmp 99) (Operand.const (Value.int IntKind.i64 2)) 3, type := 3, pos := "ref.go:206", after := #[{ on := 14, ground := Ground.data }], guard := none } : Oper)) (v := ?_) rfl (by kernel_rfl) (by kernel_rfl) (by kernel_rfl) (fun _ _ _ h => h) (Or.inl ⟨by rfl, ?_⟩) (by assumption) ?_
        rotate_left
        · (intro wz hSw; (try dsimp only at hSw); go_simp; try with_reducible rfl)
        simp only [Act.put, List.setIfInBounds_toArray, List.set_cons_zero, List.set_cons_succ]
        refine wpAnyH_ready (rs := [4, 13]) (by kernel_rfl) (by simp) ?_
        refine AllReadyH.cons (o := ({ dst := some 89, op := Op.buildSlice 82 2 #[(0, Operand.tmp 86), (1, Operand.tmp 88)], type := 82, pos := "ref.go:206", after := #[{ on := 1, ground := Ground.data }, { on := 3, ground := Ground.data }], guard := none } : Oper)) rfl (fun K hK => ?_) (AllReadyH.cons (o := ({ dst := some 98, op := Op.buildSlice 82 2 #[(0, Operand.tmp 95), (1, Operand.tmp 97)], type := 82, pos := "ref.go:206", after := #[{ on := 10, ground := Ground.data }, { on := 12, ground := Ground.data }], guard := none } : Oper)) rfl (fun K hK => ?_) AllReadyH.nil)
        · go_simp
          have P1 := Bx.new w0 a.1 a.2 2
          refine hK.out _ _ (HAL.out _ _ hH0) (fun hH1 => ?_)
          clear hK K
          obtain ⟨w1, hw1⟩ : ∃ w1, w1 = (w0.alloc (.cells #[.int .i64 a.1, .int .i64 a.2] 2)) := ⟨_, rfl⟩
          rw [← hw1] at hH1 P1 ⊢
          clear hw1
          generalize w0.heap.size = kP at *
          refine wpAnyH_take (i := 7) (oi := ({ dst := some 92, op := Op.indexAddr 82 (Operand.tmp 89) (Operand.tmp 91), type := 0, pos := "ref.go:206", after := #[{ on := 4, ground := Ground.data }, { on := 6, ground := Ground.data }], guard := none } : Oper)) (v := ?_) rfl (by kernel_rfl) (by kernel_rfl) (by kernel_rfl) (fun _ _ _ h => h) (Or.inl ⟨by rfl, ?_⟩) (by assumption) ?_
          rotate_left
          · (intro wz hSw; (try dsimp only at hSw); go_simp; try with_reducible rfl)
          simp only [Act.put, List.setIfInBounds_toArray, List.set_cons_zero, List.set_cons_succ]
          refine wpAnyH_ready (rs := [8, 13]) (by kernel_rfl) (by simp) ?_
          refine AllReadyH.cons (o := ({ dst := some 93, op := Op.load 2 (Operand.tmp 92), type := 2, pos := "ref.go:206", after := #[{ on := 7, ground := Ground.data }], guard := none } : Oper)) rfl (fun K hK => ?_) (AllReadyH.cons (o := ({ dst := some 98, op := Op.buildSlice 82 2 #[(0, Operand.tmp 95), (1, Operand.tmp 97)], type := 82, pos := "ref.go:206", after := #[{ on := 10, ground := Ground.data }, { on := 12, ground := Ground.data }], guard := none } : Oper)) rfl (fun K hK => ?_) AllReadyH.nil)
          · have c0 := P1.1
            have c1 := P1.2
            go_simp
            refine hK.out _ _ hH1 (fun _ => ?_)
            clear hK K c0 c1
            refine wpAnyH_ready (rs := [13]) (by kernel_rfl) (by simp) ?_
            refine AllReadyH.cons (o := ({ dst := some 98, op := Op.buildSlice 82 2 #[(0, Operand.tmp 95), (1, Operand.tmp 97)], type := 82, pos := "ref.go:206", after := #[{ on := 10, ground := Ground.data }, { on := 12, ground := Ground.data }], guard := none } : Oper)) rfl (fun K hK => ?_) AllReadyH.nil
            · go_simp
              have Q2 := Bx.new w1 b.1 b.2 2
              have P2 := P1.keep ((Below.refl _ _).alloc (Nat.le_refl _) (.cells #[.int .i64 b.1, .int .i64 b.2] 2))
              refine hK.out _ _ (HAL.out _ _ hH1) (fun hH2 => ?_)
              clear hK K
              obtain ⟨w2, hw2⟩ : ∃ w2, w2 = (w1.alloc (.cells #[.int .i64 b.1, .int .i64 b.2] 2)) := ⟨_, rfl⟩
              rw [← hw2] at hH2 P2 Q2 ⊢
              clear hw2
              generalize w1.heap.size = kQ at *
              refine wpAnyH_take (i := 16) (oi := ({ dst := some 101, op := Op.indexAddr 82 (Operand.tmp 98) (Operand.tmp 100), type := 0, pos := "ref.go:206", after := #[{ on := 13, ground := Ground.data }, { on := 15, ground := Ground.data }], guard := none } : Oper)) (v := ?_) rfl (by kernel_rfl) (by kernel_rfl) (by kernel_rfl) (fun _ _ _ h => h) (Or.inl ⟨by rfl, ?_⟩) (by assumption) ?_
              rotate_left
              · (intro wz hSw; (try dsimp only at hSw); go_simp; try with_reducible rfl)
              simp only [Act.put, List.setIfInBounds_toArray, List.set_cons_zero, List.set_cons_succ]
              refine wpAnyH_ready (rs := [17]) (by kernel_rfl) (by simp) ?_
              refine AllReadyH.cons (o := ({ dst := some 102, op := Op.load 2 (Operand.tmp 101), type := 2, pos := "ref.go:206", after := #[{ on := 16, ground := Ground.data }], guard := none } : Oper)) rfl (fun K hK => ?_) AllReadyH.nil
              · have c0 := Q2.1
                have c1 := Q2.2
                go_simp
                refine hK.out _ _ hH2 (fun _ => ?_)
                clear hK K c0 c1
                refine wpAnyH_ready (rs := [18]) (by kernel_rfl) (by simp) ?_
                refine AllReadyH.cons (o := ({ dst := some 103, op := Op.call { callee := Callee.value (Operand.func 91), args := #[Operand.tmp 93, Operand.tmp 102], argTypes := #[2, 2] }, type := 96, pos := "ref.go:206", after := #[{ on := 8, ground := Ground.data }, { on := 17, ground := Ground.data }], guard := none } : Oper)) rfl (fun K hK => ?_) AllReadyH.nil
                · go_simp
                  go_at_call 91
                  refine (times_any _ _ _ (by assumption) (by assumption)).mono ?_
                  rintro e x ⟨rfl, j, rfl⟩
                  refine hK.out _ _ (HDR.out _ j hH2) (fun hH3 => ?_)
                  clear hK K
                  refine wpAnyH_take (i := 19) (oi := ({ dst := some 84, op := Op.move (Operand.tmp 103), type := 96, pos := "ref.go:206", after := #[{ on := 18, ground := Ground.data }], guard := none } : Oper)) (v := ?_) rfl (by kernel_rfl) (by kernel_rfl) (by kernel_rfl) (fun _ _ _ h => h) (Or.inl ⟨by rfl, ?_⟩) (by assumption) ?_
                  rotate_left
                  · (intro wz hSw; (try dsimp only at hSw); go_simp; try with_reducible rfl)
                  simp only [Act.put, List.setIfInBounds_toArray, List.set_cons_zero, List.set_cons_succ]
                  refine wpAnyH_take (i := 20) (oi := ({ dst := some 104, op := Op.extract (Operand.tmp 84) 0, type := 2, pos := "ref.go:206", after := #[{ on := 19, ground := Ground.data }], guard := none } : Oper)) (v := ?_) rfl (by kernel_rfl) (by kernel_rfl) (by kernel_rfl) (fun _ _ _ h => h) (Or.inl ⟨by rfl, ?_⟩) (by assumption) ?_
                  rotate_left
                  · (intro wz hSw; (try dsimp only at hSw); go_simp; try with_reducible rfl)
                  simp only [Act.put, List.setIfInBounds_toArray, List.set_cons_zero, List.set_cons_succ]
                  refine wpAnyH_take (i := 21) (oi := ({ dst := some 105, op := Op.extract (Operand.tmp 84) 1, type := 4, pos := "ref.go:206", after := #[{ on := 19, ground := Ground.data }, { on := 22, ground := Ground.gcOnly Departure.lateStores }], guard := none } : Oper)) (v := ?_) rfl (by kernel_rfl) (by kernel_rfl) (by kernel_rfl) (fun _ _ _ h => h) (Or.inl ⟨by rfl, ?_⟩) (by assumption) ?_
                  rotate_left
                  · (intro wz hSw; (try dsimp only at hSw); go_simp; try with_reducible rfl)
                  simp only [Act.put, List.setIfInBounds_toArray, List.set_cons_zero, List.set_cons_succ]
                  refine wpAnyH_take (i := 22) (oi := ({ dst := some 19, op := Op.assign (Operand.tmp 104), type := 2, pos := "ref.go:206", after := #[{ on := 20, ground := Ground.data }, { on := 18, ground := Ground.chain }, { on := 0, ground := Ground.phase }, { on := 1, ground := Ground.phase }, { on := 2, ground := Ground.phase }, { on := 3, ground := Ground.phase }, { on := 4, ground := Ground.phase }, { on := 5, ground := Ground.phase }, { on := 6, ground := Ground.phase }, { on := 7, ground := Ground.phase }, { on := 8, ground := Ground.phase }, { on := 9, ground := Ground.phase }, { on := 10, ground := Ground.phase }, { on := 11, ground := Ground.phase }, { on := 12, ground := Ground.phase }, { on := 13, ground := Ground.phase }, { on := 14, ground := Ground.phase }, { on := 15, ground := Ground.phase }, { on := 16, ground := Ground.phase }, { on := 17, ground := Ground.phase }, { on := 18, ground := Ground.phase }, { on := 19, ground := Ground.phase }, { on := 20, ground := Ground.phase }, { on := 21, ground := Ground.textOnly Departure.lateStores }], guard := none } : Oper)) (v := ?_) rfl (by kernel_rfl) (by kernel_rfl) (by kernel_rfl) (fun _ _ _ h => h) (Or.inl ⟨by rfl, ?_⟩) (by assumption) ?_
                  rotate_left
                  · (intro wz hSw; (try dsimp only at hSw); go_simp; try with_reducible rfl)
                  simp only [Act.put, List.setIfInBounds_toArray, List.set_cons_zero, List.set_cons_succ]
                  refine wpAnyH_take (i := 23) (oi := ({ dst := some 20, op := Op.assign (Operand.tmp 105), type := 4, pos := "ref.go:206", after := #[{ on := 21, ground := Ground.data }, { on := 22, ground := Ground.chain }, { on := 0, ground := Ground.phase }, { on := 1, ground := Ground.phase }, { on := 2, ground := Ground.phase }, { on := 3, ground := Ground.phase }, { on := 4, ground := Ground.phase }, { on := 5, ground := Ground.phase }, { on := 6, ground := Ground.phase }, { on := 7, ground := Ground.phase }, { on := 8, ground := Ground.phase }, { on := 9, ground := Ground.phase }, { on := 10, ground := Ground.phase }, { on := 11, ground := Ground.phase }, { on := 12, ground := Ground.phase }, { on := 13, ground := Ground.phase }, { on := 14, ground := Ground.phase }, { on := 15, ground := Ground.phase }, { on := 16, ground := Ground.phase }, { on := 17, ground := Ground.phase }, { on := 18, ground := Ground.phase }, { on := 19, ground := Ground.phase }, { on := 20, ground := Ground.phase }, { on := 21, ground := Ground.phase }, { on := 22, ground := Ground.phase }], guard := none } : Oper)) (v := ?_) rfl (by kernel_rfl) (by kernel_rfl) (by kernel_rfl) (fun _ _ _ h => h) (Or.inl ⟨by rfl, ?_⟩) (by assumption) ?_
                  rotate_left
                  · (intro wz hSw; (try dsimp only at hSw); go_simp; try with_reducible rfl)
                  simp only [Act.put, List.setIfInBounds_toArray, List.set_cons_zero, List.set_cons_succ]
                  refine wpAnyH_done (by kernel_rfl) ?_ _
                  go_wp2_with fail
                  go_meet
                  case rel => exact ⟨rfl, rfl, hH3.2.2.2.2.out⟩
          · go_simp
            have Q2 := Bx.new w1 b.1 b.2 2
            have P2 := P1.keep ((Below.refl _ _).alloc (Nat.le_refl _) (.cells #[.int .i64 b.1, .int .i64 b.2] 2))
            refine hK.out _ _ (HAL.out _ _ hH1) (fun hH2 => ?_)
            clear hK K
            obtain ⟨w2, hw2⟩ : ∃ w2, w2 = (w1.alloc (.cells #[.int .i64 b.1, .int .i64 b.2] 2)) := ⟨_, rfl⟩
            rw [← hw2] at hH2 P2 Q2 ⊢
            clear hw2
            generalize w1.heap.size = kQ at *
            refine wpAnyH_take (i := 16) (oi := ({ dst := some 101, op := Op.indexAddr 82 (Operand.tmp 98) (Operand.tmp 100), type := 0, pos := "ref.go:206", after := #[{ on := 13, ground := Ground.data }, { on := 15, ground := Ground.data }], guard := none } : Oper)) (v := ?_) rfl (by kernel_rfl) (by kernel_rfl) (by kernel_rfl) (fun _ _ _ h => h) (Or.inl ⟨by rfl, ?_⟩) (by assumption) ?_
            rotate_left
            · (intro wz hSw; (try dsimp only at hSw); go_simp; try with_reducible rfl)
            simp only [Act.put, List.setIfInBounds_toArray, List.set_cons_zero, List.set_cons_succ]
            refine wpAnyH_ready (rs := [8, 17]) (by kernel_rfl) (by simp) ?_
            refine AllReadyH.cons (o := ({ dst := some 93, op := Op.load 2 (Operand.tmp 92), type := 2, pos := "ref.go:206", after := #[{ on := 7, ground := Ground.data }], guard := none } : Oper)) rfl (fun K hK => ?_) (AllReadyH.cons (o := ({ dst := some 102, op := Op.load 2 (Operand.tmp 101), type := 2, pos := "ref.go:206", after := #[{ on := 16, ground := Ground.data }], guard := none } : Oper)) rfl (fun K hK => ?_) AllReadyH.nil)
            · have c0 := P2.1
              have c1 := P2.2
              go_simp
              refine hK.out _ _ hH2 (fun _ => ?_)
              clear hK K c0 c1
              refine wpAnyH_ready (rs := [17]) (by kernel_rfl) (by simp) ?_
              refine AllReadyH.cons (o := ({ dst := some 102, op := Op.load 2 (Operand.tmp 101), type := 2, pos := "ref.go:206", after := #[{ on := 16, ground := Ground.data }], guard := none } : Oper)) rfl (fun K hK => ?_) AllReadyH.nil
              · have c0 := Q2.1
                have c1 := Q2.2
                go_simp
                refine hK.out _ _ hH2 (fun _ => ?_)
                clear hK K c0 c1
                refine wpAnyH_ready (rs := [18]) (by kernel_rfl) (by simp) ?_
                refine AllReadyH.cons (o := ({ dst := some 103, op := Op.call { callee := Callee.value (Operand.func 91), args := #[Operand.tmp 93, Operand.tmp 102], argTypes := #[2, 2] }, type := 96, pos := "ref.go:206", after := #[{ on := 8, ground := Ground.data }, { on := 17, ground := Ground.data }], guard := none } : Oper)) rfl (fun K hK => ?_) AllReadyH.nil
                · go_simp
                  go_at_call 91
                  refine (times_any _ _ _ (by assumption) (by assumption)).mono ?_
                  rintro e x ⟨rfl, j, rfl⟩
                  refine hK.out _ _ (HDR.out _ j hH2) (fun hH3 => ?_)
                  clear hK K
                  refine wpAnyH_take (i := 19) (oi := ({ dst := some 84, op := Op.move (Operand.tmp 103), type := 96, pos := "ref.go:206", after := #[{ on := 18, ground := Ground.data }], guard := none } : Oper)) (v := ?_) rfl (by kernel_rfl) (by kernel_rfl) (by kernel_rfl) (fun _ _ _ h => h) (Or.inl ⟨by rfl, ?_⟩) (by assumption) ?_
                  rotate_left
                  · (intro wz hSw; (try dsimp only at hSw); go_simp; try with_reducible rfl)
                  simp only [Act.put, List.setIfInBounds_toArray, List.set_cons_zero, List.set_cons_succ]
                  refine wpAnyH_take (i := 20) (oi := ({ dst := some 104, op := Op.extract (Operand.tmp 84) 0, type := 2, pos := "ref.go:206", after := #[{ on := 19, ground := Ground.data }], guard := none } : Oper)) (v := ?_) rfl (by kernel_rfl) (by kernel_rfl) (by kernel_rfl) (fun _ _ _ h => h) (Or.inl ⟨by rfl, ?_⟩) (by assumption) ?_
                  rotate_left
                  · (intro wz hSw; (try dsimp only at hSw); go_simp; try with_reducible rfl)
                  simp only [Act.put, List.setIfInBounds_toArray, List.set_cons_zero, List.set_cons_succ]
                  refine wpAnyH_take (i := 21) (oi := ({ dst := some 105, op := Op.extract (Operand.tmp 84) 1, type := 4, pos := "ref.go:206", after := #[{ on := 19, ground := Ground.data }, { on := 22, ground := Ground.gcOnly Departure.lateStores }], guard := none } : Oper)) (v := ?_) rfl (by kernel_rfl) (by kernel_rfl) (by kernel_rfl) (fun _ _ _ h => h) (Or.inl ⟨by rfl, ?_⟩) (by assumption) ?_
                  rotate_left
                  · (intro wz hSw; (try dsimp only at hSw); go_simp; try with_reducible rfl)
                  simp only [Act.put, List.setIfInBounds_toArray, List.set_cons_zero, List.set_cons_succ]
                  refine wpAnyH_take (i := 22) (oi := ({ dst := some 19, op := Op.assign (Operand.tmp 104), type := 2, pos := "ref.go:206", after := #[{ on := 20, ground := Ground.data }, { on := 18, ground := Ground.chain }, { on := 0, ground := Ground.phase }, { on := 1, ground := Ground.phase }, { on := 2, ground := Ground.phase }, { on := 3, ground := Ground.phase }, { on := 4, ground := Ground.phase }, { on := 5, ground := Ground.phase }, { on := 6, ground := Ground.phase }, { on := 7, ground := Ground.phase }, { on := 8, ground := Ground.phase }, { on := 9, ground := Ground.phase }, { on := 10, ground := Ground.phase }, { on := 11, ground := Ground.phase }, { on := 12, ground := Ground.phase }, { on := 13, ground := Ground.phase }, { on := 14, ground := Ground.phase }, { on := 15, ground := Ground.phase }, { on := 16, ground := Ground.phase }, { on := 17, ground := Ground.phase }, { on := 18, ground := Ground.phase }, { on := 19, ground := Ground.phase }, { on := 20, ground := Ground.phase }, { on := 21, ground := Ground.textOnly Departure.lateStores }], guard := none } : Oper)) (v := ?_) rfl (by kernel_rfl) (by kernel_rfl) (by kernel_rfl) (fun _ _ _ h => h) (Or.inl ⟨by rfl, ?_⟩) (by assumption) ?_
                  rotate_left
                  · (intro wz hSw; (try dsimp only at hSw); go_simp; try with_reducible rfl)
                  simp only [Act.put, List.setIfInBounds_toArray, List.set_cons_zero, List.set_cons_succ]
                  refine wpAnyH_take (i := 23) (oi := ({ dst := some 20, op := Op.assign (Operand.tmp 105), type := 4, pos := "ref.go:206", after := #[{ on := 21, ground := Ground.data }, { on := 22, ground := Ground.chain }, { on := 0, ground := Ground.phase }, { on := 1, ground := Ground.phase }, { on := 2, ground := Ground.phase }, { on := 3, ground := Ground.phase }, { on := 4, ground := Ground.phase }, { on := 5, ground := Ground.phase }, { on := 6, ground := Ground.phase }, { on := 7, ground := Ground.phase }, { on := 8, ground := Ground.phase }, { on := 9, ground := Ground.phase }, { on := 10, ground := Ground.phase }, { on := 11, ground := Ground.phase }, { on := 12, ground := Ground.phase }, { on := 13, ground := Ground.phase }, { on := 14, ground := Ground.phase }, { on := 15, ground := Ground.phase }, { on := 16, ground := Ground.phase }, { on := 17, ground := Ground.phase }, { on := 18, ground := Ground.phase }, { on := 19, ground := Ground.phase }, { on := 20, ground := Ground.phase }, { on := 21, ground := Ground.phase }, { on := 22, ground := Ground.phase }], guard := none } : Oper)) (v := ?_) rfl (by kernel_rfl) (by kernel_rfl) (by kernel_rfl) (fun _ _ _ h => h) (Or.inl ⟨by rfl, ?_⟩) (by assumption) ?_
                  rotate_left
                  · (intro wz hSw; (try dsimp only at hSw); go_simp; try with_reducible rfl)
                  simp only [Act.put, List.setIfInBounds_toArray, List.set_cons_zero, List.set_cons_succ]
                  refine wpAnyH_done (by kernel_rfl) ?_ _
                  go_wp2_with fail
                  go_meet
                  case rel => exact ⟨rfl, rfl, hH3.2.2.2.2.out⟩
            · have c0 := Q2.1
              have c1 := Q2.2
              go_simp
              refine hK.out _ _ hH2 (fun _ => ?_)
              clear hK K c0 c1
              refine wpAnyH_ready (rs := [8]) (by kernel_rfl) (by simp) ?_
              refine AllReadyH.cons (o := ({ dst := some 93, op := Op.load 2 (Operand.tmp 92), type := 2, pos := "ref.go:206", after := #[{ on := 7, ground := Ground.data }], guard := none } : Oper)) rfl (fun K hK => ?_) AllReadyH.nil
              · have c0 := P2.1
                have c1 := P2.2
                go_simp
                refine hK.out _ _ hH2 (fun _ => ?_)
                clear hK K c0 c1
                refine wpAnyH_ready (rs := [18]) (by kernel_rfl) (by simp) ?_
                refine AllReadyH.cons (o := ({ dst := some 103, op := Op.call { callee := Callee.value (Operand.func 91), args := #[Operand.tmp 93, Operand.tmp 102], argTypes := #[2, 2] }, type := 96, pos := "ref.go:206", after := #[{ on := 8, ground := Ground.data }, { on := 17, ground := Ground.data }], guard := none } : Oper)) rfl (fun K hK => ?_) AllReadyH.nil
                · go_simp
                  go_at_call 91
                  refine (times_any _ _ _ (by assumption) (by assumption)).mono ?_
                  rintro e x ⟨rfl, j, rfl⟩
                  refine hK.out _ _ (HDR.out _ j hH2) (fun hH3 => ?_)
                  clear hK K
                  refine wpAnyH_take (i := 19) (oi := ({ dst := some 84, op := Op.move (Operand.tmp 103), type := 96, pos := "ref.go:206", after := #[{ on := 18, ground := Ground.data }], guard := none } : Oper)) (v := ?_) rfl (by kernel_rfl) (by kernel_rfl) (by kernel_rfl) (fun _ _ _ h => h) (Or.inl ⟨by rfl, ?_⟩) (by assumption) ?_
                  rotate_left
                  · (intro wz hSw; (try dsimp only at hSw); go_simp; try with_reducible rfl)
                  simp only [Act.put, List.setIfInBounds_toArray, List.set_cons_zero, List.set_cons_succ]
                  refine wpAnyH_take (i := 20) (oi := ({ dst := some 104, op := Op.extract (Operand.tmp 84) 0, type := 2, pos := "ref.go:206", after := #[{ on := 19, ground := Ground.data }], guard := none } : Oper)) (v := ?_) rfl (by kernel_rfl) (by kernel_rfl) (by kernel_rfl) (fun _ _ _ h => h) (Or.inl ⟨by rfl, ?_⟩) (by assumption) ?_
                  rotate_left
                  · (intro wz hSw; (try dsimp only at hSw); go_simp; try with_reducible rfl)
                  simp only [Act.put, List.setIfInBounds_toArray, List.set_cons_zero, List.set_cons_succ]
                  refine wpAnyH_take (i := 21) (oi := ({ dst := some 105, op := Op.extract (Operand.tmp 84) 1, type := 4, pos := "ref.go:206", after := #[{ on := 19, ground := Ground.data }, { on := 22, ground := Ground.gcOnly Departure.lateStores }], guard := none } : Oper)) (v := ?_) rfl (by kernel_rfl) (by kernel_rfl) (by kernel_rfl) (fun _ _ _ h => h) (Or.inl ⟨by rfl, ?_⟩) (by assumption) ?_
                  rotate_left
                  · (intro wz hSw; (try dsimp only at hSw); go_simp; try with_reducible rfl)
                  simp only [Act.put, List.setIfInBounds_toArray, List.set_cons_zero, List.set_cons_succ]
                  refine wpAnyH_take (i := 22) (oi := ({ dst := some 19, op := Op.assign (Operand.tmp 104), type := 2, pos := "ref.go:206", after := #[{ on := 20, ground := Ground.data }, { on := 18, ground := Ground.chain }, { on := 0, ground := Ground.phase }, { on := 1, ground := Ground.phase }, { on := 2, ground := Ground.phase }, { on := 3, ground := Ground.phase }, { on := 4, ground := Ground.phase }, { on := 5, ground := Ground.phase }, { on := 6, ground := Ground.phase }, { on := 7, ground := Ground.phase }, { on := 8, ground := Ground.phase }, { on := 9, ground := Ground.phase }, { on := 10, ground := Ground.phase }, { on := 11, ground := Ground.phase }, { on := 12, ground := Ground.phase }, { on := 13, ground := Ground.phase }, { on := 14, ground := Ground.phase }, { on := 15, ground := Ground.phase }, { on := 16, ground := Ground.phase }, { on := 17, ground := Ground.phase }, { on := 18, ground := Ground.phase }, { on := 19, ground := Ground.phase }, { on := 20, ground := Ground.phase }, { on := 21, ground := Ground.textOnly Departure.lateStores }], guard := none } : Oper)) (v := ?_) rfl (by kernel_rfl) (by kernel_rfl) (by kernel_rfl) (fun _ _ _ h => h) (Or.inl ⟨by rfl, ?_⟩) (by assumption) ?_
                  rotate_left
                  · (intro wz hSw; (try dsimp only at hSw); go_simp; try with_reducible rfl)
                  simp only [Act.put, List.setIfInBounds_toArray, List.set_cons_zero, List.set_cons_succ]
                  refine wpAnyH_take (i := 23) (oi := ({ dst := some 20, op := Op.assign (Operand.tmp 105), type := 4, pos := "ref.go:206", after := #[{ on := 21, ground := Ground.data }, { on := 22, ground := Ground.chain }, { on := 0, ground := Ground.phase }, { on := 1, ground := Ground.phase }, { on := 2, ground := Ground.phase }, { on := 3, ground := Ground.phase }, { on := 4, ground := Ground.phase }, { on := 5, ground := Ground.phase }, { on := 6, ground := Ground.phase }, { on := 7, ground := Ground.phase }, { on := 8, ground := Ground.phase }, { on := 9, ground := Ground.phase }, { on := 10, ground := Ground.phase }, { on := 11, ground := Ground.phase }, { on := 12, ground := Ground.phase }, { on := 13, ground := Ground.phase }, { on := 14, ground := Ground.phase }, { on := 15, ground := Ground.phase }, { on := 16, ground := Ground.phase }, { on := 17, ground := Ground.phase }, { on := 18, ground := Ground.phase }, { on := 19, ground := Ground.phase }, { on := 20, ground := Ground.phase }, { on := 21, ground := Ground.phase }, { on := 22, ground := Ground.phase }], guard := none } : Oper)) (v := ?_) rfl (by kernel_rfl) (by kernel_rfl) (by kernel_rfl) (fun _ _ _ h => h) (Or.inl ⟨by rfl, ?_⟩) (by assumption) ?_
                  rotate_left
                  · (intro wz hSw; (try dsimp only at hSw); go_simp; try with_reducible rfl)
                  simp only [Act.put, List.setIfInBounds_toArray, List.set_cons_zero, List.set_cons_succ]
                  refine wpAnyH_done (by kernel_rfl) ?_ _
                  go_wp2_with fail
                  go_meet
                  case rel => exact ⟨rfl, rfl, hH3.2.2.2.2.out⟩
        · go_simp
          have Q1 := Bx.new w0 b.1 b.2 2
          refine hK.out _ _ (HAL.out _ _ hH0) (fun hH1 => ?_)
          clear hK K
          obtain ⟨w1, hw1⟩ : ∃ w1, w1 = (w0.alloc (.cells #[.int .i64 b.1, .int .i64 b.2] 2)) := ⟨_, rfl⟩
          rw [← hw1] at hH1 Q1 ⊢
          clear hw1
          generalize w0.heap.size = kQ at *
          refine wpAnyH_take (i := 16) (oi := ({ dst := some 101, op := Op.indexAddr 82 (Operand.tmp 98) (Operand.tmp 100), type := 0, pos := "ref.go:206", after := #[{ on := 13, ground := Ground.data }, { on := 15, ground := Ground.data }], guard := none } : Oper)) (v := ?_) rfl (by kernel_rfl) (by kernel_rfl) (by kernel_rfl) (fun _ _ _ h => h) (Or.inl ⟨by rfl, ?_⟩) (by assumption) ?_
          rotate_left
          · (intro wz hSw; (try dsimp only at hSw); go_simp; try with_reducible rfl)
          simp only [Act.put, List.setIfInBounds_toArray, List.set_cons_zero, List.set_cons_succ]
          refine wpAnyH_ready (rs := [4, 17]) (by kernel_rfl) (by simp) ?_
          refine AllReadyH.cons (o := ({ dst := some 89, op := Op.buildSlice 82 2 #[(0, Operand.tmp 86), (1, Operand.tmp 88)], type := 82, pos := "ref.go:206", after := #[{ on := 1, ground := Ground.data }, { on := 3, ground := Ground.data }], guard := none } : Oper)) rfl (fun K hK => ?_) (AllReadyH.cons (o := ({ dst := some 102, op := Op.load 2 (Operand.tmp 101), type := 2, pos := "ref.go:206", after := #[{ on := 16, ground := Ground.data }], guard := none } : Oper)) rfl (fun K hK => ?_) AllReadyH.nil)
          · go_simp
            have P2 := Bx.new w1 a.1 a.2 2
            have Q2 := Q1.keep ((Below.refl _ _).alloc (Nat.le_refl _) (.cells #[.int .i64 a.1, .int .i64 a.2] 2))
            refine hK.out _ _ (HAL.out _ _ hH1) (fun hH2 => ?_)
            clear hK K
            obtain ⟨w2, hw2⟩ : ∃ w2, w2 = (w1.alloc (.cells #[.int .i64 a.1, .int .i64 a.2] 2)) := ⟨_, rfl⟩
            rw [← hw2] at hH2 Q2 P2 ⊢
            clear hw2
            generalize w1.heap.size = kP at *
            refine wpAnyH_take (i := 7) (oi := ({ dst := some 92, op := Op.indexAddr 82 (Operand.tmp 89) (Operand.tmp 91), type := 0, pos := "ref.go:206", after := #[{ on := 4, ground := Ground.data }, { on := 6, ground := Ground.data }], guard := none } : Oper)) (v := ?_) rfl (by kernel_rfl) (by kernel_rfl) (by kernel_rfl) (fun _ _ _ h => h) (Or.inl ⟨by rfl, ?_⟩) (by assumption) ?_
            rotate_left
            · (intro wz hSw; (try dsimp only at hSw); go_simp; try with_reducible rfl)
            simp only [Act.put, List.setIfInBounds_toArray, List.set_cons_zero, List.set_cons_succ]
            refine wpAnyH_ready (rs := [8, 17]) (by kernel_rfl) (by simp) ?_
            refine AllReadyH.cons (o := ({ dst := some 93, op := Op.load 2 (Operand.tmp 92), type := 2, pos := "ref.go:206", after := #[{ on := 7, ground := Ground.data }], guard := none } : Oper)) rfl (fun K hK => ?_) (AllReadyH.cons (o := ({ dst := some 102, op := Op.load 2 (Operand.tmp 101), type := 2, pos := "ref.go:206", after := #[{ on := 16, ground := Ground.data }], guard := none } : Oper)) rfl (fun K hK => ?_) AllReadyH.nil)
            · have c0 := P2.1
              have c1 := P2.2
              go_simp
              refine hK.out _ _ hH2 (fun _ => ?_)
              clear hK K c0 c1
              refine wpAnyH_ready (rs := [17]) (by kernel_rfl) (by simp) ?_
              refine AllReadyH.cons (o := ({ dst := some 102, op := Op.load 2 (Operand.tmp 101), type := 2, pos := "ref.go:206", after := #[{ on := 16, ground := Ground.data }], guard := none } : Oper)) rfl (fun K hK => ?_) AllReadyH.nil
              · have c0 := Q2.1
                have c1 := Q2.2
                go_simp
                refine hK.out _ _ hH2 (fun _ => ?_)
                clear hK K c0 c1
                refine wpAnyH_ready (rs := [18]) (by kernel_rfl) (by simp) ?_
                refine AllReadyH.cons (o := ({ dst := some 103, op := Op.call { callee := Callee.value (Operand.func 91), args := #[Operand.tmp 93, Operand.tmp 102], argTypes := #[2, 2] }, type := 96, pos := "ref.go:206", after := #[{ on := 8, ground := Ground.data }, { on := 17, ground := Ground.data }], guard := none } : Oper)) rfl (fun K hK => ?_) AllReadyH.nil
                · go_simp
                  go_at_call 91
                  refine (times_any _ _ _ (by assumption) (by assumption)).mono ?_
                  rintro e x ⟨rfl, j, rfl⟩
                  refine hK.out _ _ (HDR.out _ j hH2) (fun hH3 => ?_)
                  clear hK K
                  refine wpAnyH_take (i := 19) (oi := ({ dst := some 84, op := Op.move (Operand.tmp 103), type := 96, pos := "ref.go:206", after := #[{ on := 18, ground := Ground.data }], guard := none } : Oper)) (v := ?_) rfl (by kernel_rfl) (by kernel_rfl) (by kernel_rfl) (fun _ _ _ h => h) (Or.inl ⟨by rfl, ?_⟩) (by assumption) ?_
                  rotate_left
                  · (intro wz hSw; (try dsimp only at hSw); go_simp; try with_reducible rfl)
                  simp only [Act.put, List.setIfInBounds_toArray, List.set_cons_zero, List.set_cons_succ]
                  refine wpAnyH_take (i := 20) (oi := ({ dst := some 104, op := Op.extract (Operand.tmp 84) 0, type := 2, pos := "ref.go:206", after := #[{ on := 19, ground := Ground.data }], guard := none } : Oper)) (v := ?_) rfl (by kernel_rfl) (by kernel_rfl) (by kernel_rfl) (fun _ _ _ h => h) (Or.inl ⟨by rfl, ?_⟩) (by assumption) ?_
                  rotate_left
                  · (intro wz hSw; (try dsimp only at hSw); go_simp; try with_reducible rfl)
                  simp only [Act.put, List.setIfInBounds_toArray, List.set_cons_zero, List.set_cons_succ]
                  refine wpAnyH_take (i := 21) (oi := ({ dst := some 105, op := Op.extract (Operand.tmp 84) 1, type := 4, pos := "ref.go:206", after := #[{ on := 19, ground := Ground.data }, { on := 22, ground := Ground.gcOnly Departure.lateStores }], guard := none } : Oper)) (v := ?_) rfl (by kernel_rfl) (by kernel_rfl) (by kernel_rfl) (fun _ _ _ h => h) (Or.inl ⟨by rfl, ?_⟩) (by assumption) ?_
                  rotate_left
                  · (intro wz hSw; (try dsimp only at hSw); go_simp; try with_reducible rfl)
                  simp only [Act.put, List.setIfInBounds_toArray, List.set_cons_zero, List.set_cons_succ]
                  refine wpAnyH_take (i := 22) (oi := ({ dst := some 19, op := Op.assign (Operand.tmp 104), type := 2, pos := "ref.go:206", after := #[{ on := 20, ground := Ground.data }, { on := 18, ground := Ground.chain }, { on := 0, ground := Ground.phase }, { on := 1, ground := Ground.phase }, { on := 2, ground := Ground.phase }, { on := 3, ground := Ground.phase }, { on := 4, ground := Ground.phase }, { on := 5, ground := Ground.phase }, { on := 6, ground := Ground.phase }, { on := 7, ground := Ground.phase }, { on := 8, ground := Ground.phase }, { on := 9, ground := Ground.phase }, { on := 10, ground := Ground.phase }, { on := 11, ground := Ground.phase }, { on := 12, ground := Ground.phase }, { on := 13, ground := Ground.phase }, { on := 14, ground := Ground.phase }, { on := 15, ground := Ground.phase }, { on := 16, ground := Ground.phase }, { on := 17, ground := Ground.phase }, { on := 18, ground := Ground.phase }, { on := 19, ground := Ground.phase }, { on := 20, ground := Ground.phase }, { on := 21, ground := Ground.textOnly Departure.lateStores }], guard := none } : Oper)) (v := ?_) rfl (by kernel_rfl) (by kernel_rfl) (by kernel_rfl) (fun _ _ _ h => h) (Or.inl ⟨by rfl, ?_⟩) (by assumption) ?_
                  rotate_left
                  · (intro wz hSw; (try dsimp only at hSw); go_simp; try with_reducible rfl)
                  simp only [Act.put, List.setIfInBounds_toArray, List.set_cons_zero, List.set_cons_succ]
                  refine wpAnyH_take (i := 23) (oi := ({ dst := some 20, op := Op.assign (Operand.tmp 105), type := 4, pos := "ref.go:206", after := #[{ on := 21, ground := Ground.data }, { on := 22, ground := Ground.chain }, { on := 0, ground := Ground.phase }, { on := 1, ground := Ground.phase }, { on := 2, ground := Ground.phase }, { on := 3, ground := Ground.phase }, { on := 4, ground := Ground.phase }, { on := 5, ground := Ground.phase }, { on := 6, ground := Ground.phase }, { on := 7, ground := Ground.phase }, { on := 8, ground := Ground.phase }, { on := 9, ground := Ground.phase }, { on := 10, ground := Ground.phase }, { on := 11, ground := Ground.phase }, { on := 12, ground := Ground.phase }, { on := 13, ground := Ground.phase }, { on := 14, ground := Ground.phase }, { on := 15, ground := Ground.phase }, { on := 16, ground := Ground.phase }, { on := 17, ground := Ground.phase }, { on := 18, ground := Ground.phase }, { on := 19, ground := Ground.phase }, { on := 20, ground := Ground.phase }, { on := 21, ground := Ground.phase }, { on := 22, ground := Ground.phase }], guard := none } : Oper)) (v := ?_) rfl (by kernel_rfl) (by kernel_rfl) (by kernel_rfl) (fun _ _ _ h => h) (Or.inl ⟨by rfl, ?_⟩) (by assumption) ?_
                  rotate_left
                  · (intro wz hSw; (try dsimp only at hSw); go_simp; try with_reducible rfl)
                  simp only [Act.put, List.setIfInBounds_toArray, List.set_cons_zero, List.set_cons_succ]
                  refine wpAnyH_done (by kernel_rfl) ?_ _
                  go_wp2_with fail
                  go_meet
                  case rel => exact ⟨rfl, rfl, hH3.2.2.2.2.out⟩
            · have c0 := Q2.1
              have c1 := Q2.2
              go_simp
              refine hK.out _ _ hH2 (fun _ => ?_)
              clear hK K c0 c1
              refine wpAnyH_ready (rs := [8]) (by kernel_rfl) (by simp) ?_
              refine AllReadyH.cons (o := ({ dst := some 93, op := Op.load 2 (Operand.tmp 92), type := 2, pos := "ref.go:206", after := #[{ on := 7, ground := Ground.data }], guard := none } : Oper)) rfl (fun K hK => ?_) AllReadyH.nil
              · have c0 := P2.1
                have c1 := P2.2
                go_simp
                refine hK.out _ _ hH2 (fun _ => ?_)
                clear hK K c0 c1
                refine wpAnyH_ready (rs := [18]) (by kernel_rfl) (by simp) ?_
                refine AllReadyH.cons (o := ({ dst := some 103, op := Op.call { callee := Callee.value (Operand.func 91), args := #[Operand.tmp 93, Operand.tmp 102], argTypes := #[2, 2] }, type := 96, pos := "ref.go:206", after := #[{ on := 8, ground := Ground.data }, { on := 17, ground := Ground.data }], guard := none } : Oper)) rfl (fun K hK => ?_) AllReadyH.nil
                · go_simp
                  go_at_call 91
                  refine (times_any _ _ _ (by assumption) (by assumption)).mono ?_
                  rintro e x ⟨rfl, j, rfl⟩
                  refine hK.out _ _ (HDR.out _ j hH2) (fun hH3 => ?_)
                  clear hK K
                  refine wpAnyH_take (i := 19) (oi := ({ dst := some 84, op := Op.move (Operand.tmp 103), type := 96, pos := "ref.go:206", after := #[{ on := 18, ground := Ground.data }], guard := none } : Oper)) (v := ?_) rfl (by kernel_rfl) (by kernel_rfl) (by kernel_rfl) (fun _ _ _ h => h) (Or.inl ⟨by rfl, ?_⟩) (by assumption) ?_
                  rotate_left
                  · (intro wz hSw; (try dsimp only at hSw); go_simp; try with_reducible rfl)
                  simp only [Act.put, List.setIfInBounds_toArray, List.set_cons_zero, List.set_cons_succ]
                  refine wpAnyH_take (i := 20) (oi := ({ dst := some 104, op := Op.extract (Operand.tmp 84) 0, type := 2, pos := "ref.go:206", after := #[{ on := 19, ground := Ground.data }], guard := none } : Oper)) (v := ?_) rfl (by kernel_rfl) (by kernel_rfl) (by kernel_rfl) (fun _ _ _ h => h) (Or.inl ⟨by rfl, ?_⟩) (by assumption) ?_
                  rotate_left
                  · (intro wz hSw; (try dsimp only at hSw); go_simp; try with_reducible rfl)
                  simp only [Act.put, List.setIfInBounds_toArray, List.set_cons_zero, List.set_cons_succ]
                  refine wpAnyH_take (i := 21) (oi := ({ dst := some 105, op := Op.extract (Operand.tmp 84) 1, type := 4, pos := "ref.go:206", after := #[{ on := 19, ground := Ground.data }, { on := 22, ground := Ground.gcOnly Departure.lateStores }], guard := none } : Oper)) (v := ?_) rfl (by kernel_rfl) (by kernel_rfl) (by kernel_rfl) (fun _ _ _ h => h) (Or.inl ⟨by rfl, ?_⟩) (by assumption) ?_
                  rotate_left
                  · (intro wz hSw; (try dsimp only at hSw); go_simp; try with_reducible rfl)
                  simp only [Act.put, List.setIfInBounds_toArray, List.set_cons_zero, List.set_cons_succ]
                  refine wpAnyH_take (i := 22) (oi := ({ dst := some 19, op := Op.assign (Operand.tmp 104), type := 2, pos := "ref.go:206", after := #[{ on := 20, ground := Ground.data }, { on := 18, ground := Ground.chain }, { on := 0, ground := Ground.phase }, { on := 1, ground := Ground.phase }, { on := 2, ground := Ground.phase }, { on := 3, ground := Ground.phase }, { on := 4, ground := Ground.phase }, { on := 5, ground := Ground.phase }, { on := 6, ground := Ground.phase }, { on := 7, ground := Ground.phase }, { on := 8, ground := Ground.phase }, { on := 9, ground := Ground.phase }, { on := 10, ground := Ground.phase }, { on := 11, ground := Ground.phase }, { on := 12, ground := Ground.phase }, { on := 13, ground := Ground.phase }, { on := 14, ground := Ground.phase }, { on := 15, ground := Ground.phase }, { on := 16, ground := Ground.phase }, { on := 17, ground := Ground.phase }, { on := 18, ground := Ground.phase }, { on := 19, ground := Ground.phase }, { on := 20, ground := Ground.phase }, { on := 21, ground := Ground.textOnly Departure.lateStores }], guard := none } : Oper)) (v := ?_) rfl (by kernel_rfl) (by kernel_rfl) (by kernel_rfl) (fun _ _ _ h => h) (Or.inl ⟨by rfl, ?_⟩) (by assumption) ?_
                  rotate_left
                  · (intro wz hSw; (try dsimp only at hSw); go_simp; try with_reducible rfl)
                  simp only [Act.put, List.setIfInBounds_toArray, List.set_cons_zero, List.set_cons_succ]
                  refine wpAnyH_take (i := 23) (oi := ({ dst := some 20, op := Op.assign (Operand.tmp 105), type := 4, pos := "ref.go:206", after := #[{ on := 21, ground := Ground.data }, { on := 22, ground := Ground.chain }, { on := 0, ground := Ground.phase }, { on := 1, ground := Ground.phase }, { on := 2, ground := Ground.phase }, { on := 3, ground := Ground.phase }, { on := 4, ground := Ground.phase }, { on := 5, ground := Ground.phase }, { on := 6, ground := Ground.phase }, { on := 7, ground := Ground.phase }, { on := 8, ground := Ground.phase }, { on := 9, ground := Ground.phase }, { on := 10, ground := Ground.phase }, { on := 11, ground := Ground.phase }, { on := 12, ground := Ground.phase }, { on := 13, ground := Ground.phase }, { on := 14, ground := Ground.phase }, { on := 15, ground := Ground.phase }, { on := 16, ground := Ground.phase }, { on := 17, ground := Ground.phase }, { on := 18, ground := Ground.phase }, { on := 19, ground := Ground.phase }, { on := 20, ground := Ground.phase }, { on := 21, ground := Ground.phase }, { on := 22, ground := Ground.phase }], guard := none } : Oper)) (v := ?_) rfl (by kernel_rfl) (by kernel_rfl) (by kernel_rfl) (fun _ _ _ h => h) (Or.inl ⟨by rfl, ?_⟩) (by assumption) ?_
                  rotate_left
                  · (intro wz hSw; (try dsimp only at hSw); go_simp; try with_reducible rfl)
                  simp only [Act.put, List.setIfInBounds_toArray, List.set_cons_zero, List.set_cons_succ]
                  refine wpAnyH_done (by kernel_rfl) ?_ _
                  go_wp2_with fail
                  go_meet
                  case rel => exact ⟨rfl, rfl, hH3.2.2.2.2.out⟩
          · have c0 := Q1.1
            have c1 := Q1.2
            go_simp
            refine hK.out _ _ hH1 (fun _ => ?_)
            clear hK K c0 c1
            refine wpAnyH_ready (rs := [4]) (by kernel_rfl) (by simp) ?_
            refine AllReadyH.cons (o := ({ dst := some 89, op := Op.buildSlice 82 2 #[(0, Operand.tmp 86), (1, Operand.tmp 88)], type := 82, pos := "ref.go:206", after := #[{ on := 1, ground := Ground.data }, { on := 3, ground := Ground.data }], guard := none } : Oper)) rfl (fun K hK => ?_) AllReadyH.nil
            · go_simp
              have P2 := Bx.new w1 a.1 a.2 2
              have Q2 := Q1.keep ((Below.refl _ _).alloc (Nat.le_refl _) (.cells #[.int .i64 a.1, .int .i64 a.2] 2))
              refine hK.out _ _ (HAL.out _ _ hH1) (fun hH2 => ?_)
              clear hK K
              obtain ⟨w2, hw2⟩ : ∃ w2, w2 = (w1.alloc (.cells #[.int .i64 a.1, .int .i64 a.2] 2)) := ⟨_, rfl⟩
              rw [← hw2] at hH2 Q2 P2 ⊢
              clear hw2
              generalize w1.heap.size = kP at *
              refine wpAnyH_take (i := 7) (oi := ({ dst := some 92, op := Op.indexAddr 82 (Operand.tmp 89) (Operand.tmp 91), type := 0, pos := "ref.go:206", after := #[{ on := 4, ground := Ground.data }, { on := 6, ground := Ground.data }], guard := none } : Oper)) (v := ?_) rfl (by kernel_rfl) (by kernel_rfl) (by kernel_rfl) (fun _ _ _ h => h) (Or.inl ⟨by rfl, ?_⟩) (by assumption) ?_
              rotate_left
              · (intro wz hSw; (try dsimp only at hSw); go_simp; try with_reducible rfl)
              simp only [Act.put, List.setIfInBounds_toArray, List.set_cons_zero, List.set_cons_succ]
              refine wpAnyH_ready (rs := [8]) (by kernel_rfl) (by simp) ?_
              refine AllReadyH.cons (o := ({ dst := some 93, op := Op.load 2 (Operand.tmp 92), type := 2, pos := "ref.go:206", after := #[{ on := 7, ground := Ground.data }], guard := none } : Oper)) rfl (fun K hK => ?_) AllReadyH.nil
              · have c0 := P2.1
                have c1 := P2.2
                go_simp
                refine hK.out _ _ hH2 (fun _ => ?_)
                clear hK K c0 c1
                refine wpAnyH_ready (rs := [18]) (by kernel_rfl) (by simp) ?_
                refine AllReadyH.cons (o := ({ dst := some 103, op := Op.call { callee := Callee.value (Operand.func 91), args := #[Operand.tmp 93, Operand.tmp 102], argTypes := #[2, 2] }, type := 96, pos := "ref.go:206", after := #[{ on := 8, ground := Ground.data }, { on := 17, ground := Ground.data }], guard := none } : Oper)) rfl (fun K hK => ?_) AllReadyH.nil
                · go_simp
                  go_at_call 91
                  refine (times_any _ _ _ (by assumption) (by assumption)).mono ?_
                  rintro e x ⟨rfl, j, rfl⟩
                  refine hK.out _ _ (HDR.out _ j hH2) (fun hH3 => ?_)
                  clear hK K
                  refine wpAnyH_take (i := 19) (oi := ({ dst := some 84, op := Op.move (Operand.tmp 103), type := 96, pos := "ref.go:206", after := #[{ on := 18, ground := Ground.data }], guard := none } : Oper)) (v := ?_) rfl (by kernel_rfl) (by kernel_rfl) (by kernel_rfl) (fun _ _ _ h => h) (Or.inl ⟨by rfl, ?_⟩) (by assumption) ?_
                  rotate_left
                  · (intro wz hSw; (try dsimp only at hSw); go_simp; try with_reducible rfl)
                  simp only [Act.put, List.setIfInBounds_toArray, List.set_cons_zero, List.set_cons_succ]
                  refine wpAnyH_take (i := 20) (oi := ({ dst := some 104, op := Op.extract (Operand.tmp 84) 0, type := 2, pos := "ref.go:206", after := #[{ on := 19, ground := Ground.data }], guard := none } : Oper)) (v := ?_) rfl (by kernel_rfl) (by kernel_rfl) (by kernel_rfl) (fun _ _ _ h => h) (Or.inl ⟨by rfl, ?_⟩) (by assumption) ?_
                  rotate_left
                  · (intro wz hSw; (try dsimp only at hSw); go_simp; try with_reducible rfl)
                  simp only [Act.put, List.setIfInBounds_toArray, List.set_cons_zero, List.set_cons_succ]
                  refine wpAnyH_take (i := 21) (oi := ({ dst := some 105, op := Op.extract (Operand.tmp 84) 1, type := 4, pos := "ref.go:206", after := #[{ on := 19, ground := Ground.data }, { on := 22, ground := Ground.gcOnly Departure.lateStores }], guard := none } : Oper)) (v := ?_) rfl (by kernel_rfl) (by kernel_rfl) (by kernel_rfl) (fun _ _ _ h => h) (Or.inl ⟨by rfl, ?_⟩) (by assumption) ?_
                  rotate_left
                  · (intro wz hSw; (try dsimp only at hSw); go_simp; try with_reducible rfl)
                  simp only [Act.put, List.setIfInBounds_toArray, List.set_cons_zero, List.set_cons_succ]
                  refine wpAnyH_take (i := 22) (oi := ({ dst := some 19, op := Op.assign (Operand.tmp 104), type := 2, pos := "ref.go:206", after := #[{ on := 20, ground := Ground.data }, { on := 18, ground := Ground.chain }, { on := 0, ground := Ground.phase }, { on := 1, ground := Ground.phase }, { on := 2, ground := Ground.phase }, { on := 3, ground := Ground.phase }, { on := 4, ground := Ground.phase }, { on := 5, ground := Ground.phase }, { on := 6, ground := Ground.phase }, { on := 7, ground := Ground.phase }, { on := 8, ground := Ground.phase }, { on := 9, ground := Ground.phase }, { on := 10, ground := Ground.phase }, { on := 11, ground := Ground.phase }, { on := 12, ground := Ground.phase }, { on := 13, ground := Ground.phase }, { on := 14, ground := Ground.phase }, { on := 15, ground := Ground.phase }, { on := 16, ground := Ground.phase }, { on := 17, ground := Ground.phase }, { on := 18, ground := Ground.phase }, { on := 19, ground := Ground.phase }, { on := 20, ground := Ground.phase }, { on := 21, ground := Ground.textOnly Departure.lateStores }], guard := none } : Oper)) (v := ?_) rfl (by kernel_rfl) (by kernel_rfl) (by kernel_rfl) (fun _ _ _ h => h) (Or.inl ⟨by rfl, ?_⟩) (by assumption) ?_
                  rotate_left
                  · (intro wz hSw; (try dsimp only at hSw); go_simp; try with_reducible rfl)
                  simp only [Act.put, List.setIfInBounds_toArray, List.set_cons_zero, List.set_cons_succ]
                  refine wpAnyH_take (i := 23) (oi := ({ dst := some 20, op := Op.assign (Operand.tmp 105), type := 4, pos := "ref.go:206", after := #[{ on := 21, ground := Ground.data }, { on := 22, ground := Ground.chain }, { on := 0, ground := Ground.phase }, { on := 1, ground := Ground.phase }, { on := 2, ground := Ground.phase }, { on := 3, ground := Ground.phase }, { on := 4, ground := Ground.phase }, { on := 5, ground := Ground.phase }, { on := 6, ground := Ground.phase }, { on := 7, ground := Ground.phase }, { on := 8, ground := Ground.phase }, { on := 9, ground := Ground.phase }, { on := 10, ground := Ground.phase }, { on := 11, ground := Ground.phase }, { on := 12, ground := Ground.phase }, { on := 13, ground := Ground.phase }, { on := 14, ground := Ground.phase }, { on := 15, ground := Ground.phase }, { on := 16, ground := Ground.phase }, { on := 17, ground := Ground.phase }, { on := 18, ground := Ground.phase }, { on := 19, ground := Ground.phase }, { on := 20, ground := Ground.phase }, { on := 21, ground := Ground.phase }, { on := 22, ground := Ground.phase }], guard := none } : Oper)) (v := ?_) rfl (by kernel_rfl) (by kernel_rfl) (by kernel_rfl) (fun _ _ _ h => h) (Or.inl ⟨by rfl, ?_⟩) (by assumption) ?_
                  rotate_left
                  · (intro wz hSw; (try dsimp only at hSw); go_simp; try with_reducible rfl)
                  simp only [Act.put, List.setIfInBounds_toArray, List.set_cons_zero, List.set_cons_succ]
                  refine wpAnyH_done (by kernel_rfl) ?_ _
                  go_wp2_with fail
                  go_meet
                  case rel => exact ⟨rfl, rfl, hH3.2.2.2.2.out⟩
      case rest =>
        obtain ⟨rfl, rfl, hS2⟩ := hcut
        clear HB HAL HDR hS1
        cases hB : (true && fit (a.1 * b.1))
        · go_wp2_with (at_builtin; refine wpList_app1 W5 _ rfl (.tmp 106) (.tmp 108) rfl _ [(wrap64 (a.1 * b.1))] (wrap64 (a.1 * b.2)) hS2.out rfl rfl (Nat.le_of_ble_eq_true rfl) ?_; intro p2 c2 w2 hS3; replace hS3 := (hide hS3))
          go_round
          case rel => exact Or.inr (Or.inr (Or.inl ⟨rfl, by rw [hB]; simp, hS3.out⟩))
          case measure => simp [intOf]
        · go_wp2_with (at_builtin; refine wpList_app1 W5 _ rfl (.tmp 106) (.tmp 108) rfl _ [(wrap64 (a.1 * b.1))] (wrap64 (a.1 * b.2)) hS2.out rfl rfl (Nat.le_of_ble_eq_true rfl) ?_; intro p2 c2 w2 hS3; replace hS3 := (hide hS3))
          go_round
          case rel => exact Or.inr (Or.inr (Or.inl ⟨rfl, by rw [hB]; simp, hS3.out⟩))
          case measure => simp [intOf]
    · obtain ⟨p1, c1, rfl⟩ := (hS.out).slice
      have HB : Hid (∀ w2 : World, St W5 w2 (.slice p1 2 c1) [(wrap64 (a.1 * b.1)), (wrap64 (a.1 * b.2))] → (w2.cell? ⟨A, 0, none⟩ = some (.int .i64 a.1) ∧ w2.cell? ⟨A, 1, none⟩ = some (.int .i64 a.2) ∧ w2.cell? ⟨A + 1, 0, none⟩ = some (.int .i64 b.1) ∧ w2.cell? ⟨A + 1, 1, none⟩ = some (.int .i64 b.2) ∧ Hid (St W5 w2 (.slice p1 2 c1) [(wrap64 (a.1 * b.1)), (wrap64 (a.1 * b.2))]))) := fun w2 h => by
        have x := HX5.out.keep h.bel
        exact ⟨x.xa.1, x.xa.2, x.xb.1, x.xb.2, h⟩
      have HAL : Hid (∀ (w2 : World) (o : Obj), (w2.cell? ⟨A, 0, none⟩ = some (.int .i64 a.1) ∧ w2.cell? ⟨A, 1, none⟩ = some (.int .i64 a.2) ∧ w2.cell? ⟨A + 1, 0, none⟩ = some (.int .i64 b.1) ∧ w2.cell? ⟨A + 1, 1, none⟩ = some (.int .i64 b.2) ∧ Hid (St W5 w2 (.slice p1 2 c1) [(wrap64 (a.1 * b.1)), (wrap64 (a.1 * b.2))])) → ((w2.alloc o).cell? ⟨A, 0, none⟩ = some (.int .i64 a.1) ∧ (w2.alloc o).cell? ⟨A, 1, none⟩ = some (.int .i64 a.2) ∧ (w2.alloc o).cell? ⟨A + 1, 0, none⟩ = some (.int .i64 b.1) ∧ (w2.alloc o).cell? ⟨A + 1, 1, none⟩ = some (.int .i64 b.2) ∧ Hid (St W5 (w2.alloc o) (.slice p1 2 c1) [(wrap64 (a.1 * b.1)), (wrap64 (a.1 * b.2))]))) := fun w2 o h => HB.out _ (h.2.2.2.2.out.alloc o)
      have HDR : Hid (∀ (w2 : World) (j : Nat), (w2.cell? ⟨A, 0, none⟩ = some (.int .i64 a.1) ∧ w2.cell? ⟨A, 1, none⟩ = some (.int .i64 a.2) ∧ w2.cell? ⟨A + 1, 0, none⟩ = some (.int .i64 b.1) ∧ w2.cell? ⟨A + 1, 1, none⟩ = some (.int .i64 b.2) ∧ Hid (St W5 w2 (.slice p1 2 c1) [(wrap64 (a.1 * b.1)), (wrap64 (a.1 * b.2))])) → ((w2.drewN j).cell? ⟨A, 0, none⟩ = some (.int .i64 a.1) ∧ (w2.drewN j).cell? ⟨A, 1, none⟩ = some (.int .i64 a.2) ∧ (w2.drewN j).cell? ⟨A + 1, 0, none⟩ = some (.int .i64 b.1) ∧ (w2.drewN j).cell? ⟨A + 1, 1, none⟩ = some (.int .i64 b.2) ∧ Hid (St W5 (w2.drewN j) (.slice p1 2 c1) [(wrap64 (a.1 * b.1)), (wrap64 (a.1 * b.2))]))) := fun w2 j h => HB.out _ (h.2.2.2.2.out.drewN j)
      have hS1 : Hid (St W5 wr (.slice p1 2 c1) [(wrap64 (a.1 * b.1)), (wrap64 (a.1 * b.2))]) := hS.out
      clear hS
      go_upto_region 16 with fail
      go_cut [19, 20] from 80 to 113 (fun v19 v20 wy => v19 = .int .i64 (wrap64 (a.2 * b.1)) ∧ v20 = .bool (fit (a.2 * b.1)) ∧ Hid (St W5 wy (.slice p1 2 c1) [(wrap64 (a.1 * b.1)), (wrap64 (a.1 * b.2))]))
      case first =>
        refine wp_region_held_drew (S := fun w' => w'.cell? ⟨A, 0, none⟩ = some (.int .i64 a.1) ∧ w'.cell? ⟨A, 1, none⟩ = some (.int .i64 a.2) ∧ w'.cell? ⟨A + 1, 0, none⟩ = some (.int .i64 b.1) ∧ w'.cell? ⟨A + 1, 1, none⟩ = some (.int .i64 b.2) ∧ Hid (St W5 w' (.slice p1 2 c1) [(wrap64 (a.1 * b.1)), (wrap64 (a.1 * b.2))])) (by kernel_rfl) (HDR.out wr 1 (HB.out _ hS1.out)) (fun hH0 => ?_)
        obtain ⟨w0, hw0⟩ : ∃ w0, w0 = wr.drew := ⟨_, rfl⟩
        rw [← hw0] at hH0 ⊢
        clear hw0
        refine wpAnyH_take (i := 0) (oi := ({ dst := some 85, op := Op.fieldAddr 25 (Operand.tmp 4) 0, type := 0, pos := "ref.go:206", after := #[], guard := none } : Oper)) (v := ?_) rfl (by kernel_rfl) (by kernel_rfl) (by kernel_rfl) (fun _ _ _ h => h) (Or.inl ⟨by rfl, ?_⟩) (by assumption) ?_
        rotate_left
        · (intro wz hSw; (try dsimp only at hSw); go_simp; try with_reducible rfl)
        simp only [Act.put, List.setIfInBounds_toArray, List.set_cons_zero, List.set_cons_succ]
        refine wpAnyH_take (i := 1) (oi := ({ dst := some 86, op := Op.load 2 (Operand.tmp 85), type := 2, pos := "ref.go:206", after := #[{ on := 0, ground := Ground.data }], guard := none } : Oper)) (v := ?_) rfl (by kernel_rfl) (by kernel_rfl) (by kernel_rfl) (fun _ _ _ h => h) (Or.inl ⟨by rfl, ?_⟩) (by assumption) ?_
        rotate_left
        · (intro wz hSw; (try dsimp only at hSw); go_simp; try with_reducible rfl)
        simp only [Act.put, List.setIfInBounds_toArray, List.set_cons_zero, List.set_cons_succ]
        refine wpAnyH_take (i := 2) (oi := ({ dst := some 87, op := Op.fieldAddr 25 (Operand.tmp 4) 1, type := 0, pos := "ref.go:206", after := #[], guard := none } : Oper)) (v := ?_) rfl (by kernel_rfl) (by kernel_rfl) (by kernel_rfl) (fun _ _ _ h => h) (Or.inl ⟨by rfl, ?_⟩) (by assumption) ?_
        rotate_left
        · (intro wz hSw; (try dsimp only at hSw); go_simp; try with_reducible rfl)
        simp only [Act.put, List.setIfInBounds_toArray, List.set_cons_zero, List.set_cons_succ]
        refine wpAnyH_take (i := 3) (oi := ({ dst := some 88, op := Op.load 2 (Operand.tmp 87), type := 2, pos := "ref.go:206", after := #[{ on := 2, ground := Ground.data }], guard := none } : Oper)) (v := ?_) rfl (by kernel_rfl) (by kernel_rfl) (by kernel_rfl) (fun _ _ _ h => h) (Or.inl ⟨by rfl, ?_⟩) (by assumption) ?_
        rotate_left
        · (intro wz hSw; (try dsimp only at hSw); go_simp; try with_reducible rfl)
        simp only [Act.put, List.setIfInBounds_toArray, List.set_cons_zero, List.set_cons_succ]
        refine wpAnyH_take (i := 5) (oi := ({ dst := some 90, op := Op.move (Operand.tmp 18), type := 3, pos := "ref.go:206", after := #[], guard := none } : Oper)) (v := ?_) rfl (by kernel_rfl) (by kernel_rfl) (by kernel_rfl) (fun _ _ _ h => h) (Or.inl ⟨by rfl, ?_⟩) (by assumption) ?_
        rotate_left
        · (intro wz hSw; (try dsimp only at hSw); go_simp; try with_reducible rfl)
        simp only [Act.put, List.setIfInBounds_toArray, List.set_cons_zero, List.set_cons_succ]
        refine wpAnyH_take (i := 6) (oi := ({ dst := some 91, op := Op.binOp BinOp.quo 3 (Operand.tmp 90) (Operand.const (Value.int IntKind.i64 2)) 3, type := 3, pos := "ref.go:206", after := #[{ on := 5, ground := Ground.data }], guard := none } : Oper)) (v := ?_) rfl (by kernel_rfl) (by kernel_rfl) (by kernel_rfl) (fun _ _ _ h => h) (Or.inl ⟨by rfl, ?_⟩) (by assumption) ?_
        rotate_left
        · (intro wz hSw; (try dsimp only at hSw); go_simp; try with_reducible rfl)
        simp only [Act.put, List.setIfInBounds_toArray, List.set_cons_zero, List.set_cons_succ]
        refine wpAnyH_take (i := 9) (oi := ({ dst := some 94, op := Op.fieldAddr 25 (Operand.tmp 5) 0, type := 0, pos := "ref.go:206", after := #[], guard := none } : Oper)) (v := ?_) rfl (by kernel_rfl) (by kernel_rfl) (by kernel_rfl) (fun _ _ _ h => h) (Or.inl ⟨by rfl, ?_⟩) (by assumption) ?_
        rotate_left
        · (intro wz hSw; (try dsimp only at hSw); go_simp; try with_reducible rfl)
        simp only [Act.put, List.setIfInBounds_toArray, List.set_cons_zero, List.set_cons_succ]
        refine wpAnyH_take (i := 10) (oi := ({ dst := some 95, op := Op.load 2 (Operand.tmp 94), type := 2, pos := "ref.go:206", after := #[{ on := 9, ground := Ground.data }], guard := none } : Oper)) (v := ?_) rfl (by kernel_rfl) (by kernel_rfl) (by kernel_rfl) (fun _ _ _ h => h) (Or.inl ⟨by rfl, ?_⟩) (by assumption) ?_
        rotate_left
        · (intro wz hSw; (try dsimp only at hSw); go_simp; try with_reducible rfl)
        simp only [Act.put, List.setIfInBounds_toArray, List.set_cons_zero, List.set_cons_succ]
        refine wpAnyH_take (i := 11) (oi := ({ dst := some 96, op := Op.fieldAddr 25 (Operand.tmp 5) 1, type := 0, pos := "ref.go:206", after := #[], guard := none } : Oper)) (v := ?_) rfl (by kernel_rfl) (by kernel_rfl) (by kernel_rfl) (fun _ _ _ h => h) (Or.inl ⟨by rfl, ?_⟩) (by assumption) ?_
        rotate_left
        · (intro wz hSw; (try dsimp only at hSw); go_simp; try with_reducible rfl)
        simp only [Act.put, List.setIfInBounds_toArray, List.set_cons_zero, List.set_cons_succ]
        refine wpAnyH_take (i := 12) (oi := ({ dst := some 97, op := Op.load 2 (Operand.tmp 96), type := 2, pos := "ref.go:206", after := #[{ on := 11, ground := Ground.data }], guard := none } : Oper)) (v := ?_) rfl (by kernel_rfl) (by kernel_rfl) (by kernel_rfl) (fun _ _ _ h => h) (Or.inl ⟨by rfl, ?_⟩) (by assumption) ?_
        rotate_left
        · (intro wz hSw; (try dsimp only at hSw); go_simp; try with_reducible rfl)
        simp only [Act.put, List.setIfInBounds_toArray, List.set_cons_zero, List.set_cons_succ]
        refine wpAnyH_take (i := 14) (oi := ({ dst := some 99, op := Op.move (Operand.tmp 18), type := 3, pos := "ref.go:206", after := #[], guard := none } : Oper)) (v := ?_) rfl (by kernel_rfl) (by kernel_rfl) (by kernel_rfl) (fun _ _ _ h => h) (Or.inl ⟨by rfl, ?_⟩) (by assumption) ?_
        rotate_left
        · (intro wz hSw; (try dsimp only at hSw); go_simp; try with_reducible rfl)
        simp only [Act.put, List.setIfInBounds_toArray, List.set_cons_zero, List.set_cons_succ]
        refine wpAnyH_take (i := 15) (oi := ({ dst := some 100, op := Op.binOp BinOp.rem 3 (Operand.tmp 99) (Operand.const (Value.int IntKind.i64 2)) 3, type := 3, pos := "ref.go:206", after := #[{ on := 14, ground := Ground.data }], guard := none } : Oper)) (v := ?_) rfl (by kernel_rfl) (by kernel_rfl) (by kernel_rfl) (fun _ _ _ h => h) (Or.inl ⟨by rfl, ?_⟩) (by assumption) ?_
        rotate_left
        · (intro wz hSw; (try dsimp only at hSw); go_simp; try with_reducible rfl)
        simp only [Act.put, List.setIfInBounds_toArray, List.set_cons_zero, List.set_cons_succ]
        refine wpAnyH_ready (rs := [4, 13]) (by kernel_rfl) (by simp) ?_
        refine AllReadyH.cons (o := ({ dst := some 89, op := Op.buildSlice 82 2 #[(0, Operand.tmp 86), (1, Operand.tmp 88)], type := 82, pos := "ref.go:206", after := #[{ on := 1, ground := Ground.data }, { on := 3, ground := Ground.data }], guard := none } : Oper)) rfl (fun K hK => ?_) (AllReadyH.cons (o := ({ dst := some 98, op := Op.buildSlice 82 2 #[(0, Operand.tmp 95), (1, Operand.tmp 97)], type := 82, pos := "ref.go:206", after := #[{ on := 10, ground := Ground.data }, { on := 12, ground := Ground.data }], guard := none } : Oper)) rfl (fun K hK => ?_) AllReadyH.nil)
        · go_simp
          have P1 := Bx.new w0 a.1 a.2 2
          refine hK.out _ _ (HAL.out _ _ hH0) (fun hH1 => ?_)
          clear hK K
          obtain ⟨w1, hw1⟩ : ∃ w1, w1 = (w0.alloc (.cells #[.int .i64 a.1, .int .i64 a.2] 2)) := ⟨_, rfl⟩
          rw [← hw1] at hH1 P1 ⊢
          clear hw1
          generalize w0.heap.size = kP at *
          refine wpAnyH_take (i := 7) (oi := ({ dst := some 92, op := Op.indexAddr 82 (Operand.tmp 89) (Operand.tmp 91), type := 0, pos := "ref.go:206", after := #[{ on := 4, ground := Ground.data }, { on := 6, ground := Ground.data }], guard := none } : Oper)) (v := ?_) rfl (by kernel_rfl) (by kernel_rfl) (by kernel_rfl) (fun _ _ _ h => h) (Or.inl ⟨by rfl, ?_⟩) (by assumption) ?_
          rotate_left
          · (intro wz hSw; (try dsimp only at hSw); go_simp; try with_reducible rfl)
          simp only [Act.put, List.setIfInBounds_toArray, List.set_cons_zero, List.set_cons_succ]
          refine wpAnyH_ready (rs := [8, 13]) (by kernel_rfl) (by simp) ?_
          refine AllReadyH.cons (o := ({ dst := some 93, op := Op.load 2 (Operand.tmp 92), type := 2, pos := "ref.go:206", after := #[{ on := 7, ground := Ground.data }], guard := none } : Oper)) rfl (fun K hK => ?_) (AllReadyH.cons (o := ({ dst := some 98, op := Op.buildSlice 82 2 #[(0, Operand.tmp 95), (1, Operand.tmp 97)], type := 82, pos := "ref.go:206", after := #[{ on := 10, ground := Ground.data }, { on := 12, ground := Ground.data }], guard := none } : Oper)) rfl (fun K hK => ?_) AllReadyH.nil)
          · have c0 := P1.1
            have c1 := P1.2
            go_simp
            refine hK.out _ _ hH1 (fun _ => ?_)
            clear hK K c0 c1
            refine wpAnyH_ready (rs := [13]) (by kernel_rfl) (by simp) ?_
            refine AllReadyH.cons (o := ({ dst := some 98, op := Op.buildSlice 82 2 #[(0, Operand.tmp 95), (1, Operand.tmp 97)], type := 82, pos := "ref.go:206", after := #[{ on := 10, ground := Ground.data }, { on := 12, ground := Ground.data }], guard := none } : Oper)) rfl (fun K hK => ?_) AllReadyH.nil
            · go_simp
              have Q2 := Bx.new w1 b.1 b.2 2
              have P2 := P1.keep ((Below.refl _ _).alloc (Nat.le_refl _) (.cells #[.int .i64 b.1, .int .i64 b.2] 2))
              refine hK.out _ _ (HAL.out _ _ hH1) (fun hH2 => ?_)
              clear hK K
              obtain ⟨w2, hw2⟩ : ∃ w2, w2 = (w1.alloc (.cells #[.int .i64 b.1, .int .i64 b.2] 2)) := ⟨_, rfl⟩
              rw [← hw2] at hH2 P2 Q2 ⊢
              clear hw2
              generalize w1.heap.size = kQ at *
              refine wpAnyH_take (i := 16) (oi := ({ dst := some 101, op := Op.indexAddr 82 (Operand.tmp 98) (Operand.tmp 100), type := 0, pos := "ref.go:206", after := #[{ on := 13, ground := Ground.data }, { on := 15, ground := Ground.data }], guard := none } : Oper)) (v := ?_) rfl (by kernel_rfl) (by kernel_rfl) (by kernel_rfl) (fun _ _ _ h => h) (Or.inl ⟨by rfl, ?_⟩) (by assumption) ?_
              rotate_left
              · (intro wz hSw; (try dsimp only at hSw); go_simp; try with_reducible rfl)
              simp only [Act.put, List.setIfInBounds_toArray, List.set_cons_zero, List.set_cons_succ]
              refine wpAnyH_ready (rs := [17]) (by kernel_rfl) (by simp) ?_
              refine AllReadyH.cons (o := ({ dst := some 102, op := Op.load 2 (Operand.tmp 101), type := 2, pos := "ref.go:206", after := #[{ on := 16, ground := Ground.data }], guard := none } : Oper)) rfl (fun K hK => ?_) AllReadyH.nil
              · have c0 := Q2.1
                have c1 := Q2.2
                go_simp
                refine hK.out _ _ hH2 (fun _ => ?_)
                clear hK K c0 c1
                refine wpAnyH_ready (rs := [18]) (by kernel_rfl) (by simp) ?_
                refine AllReadyH.cons (o := ({ dst := some 103, op := Op.call { callee := Callee.value (Operand.func 91), args := #[Operand.tmp 93, Operand.tmp 102], argTypes := #[2, 2] }, type := 96, pos := "ref.go:206", after := #[{ on := 8, ground := Ground.data }, { on := 17, ground := Ground.data }], guard := none } : Oper)) rfl (fun K hK => ?_) AllReadyH.nil
                · go_simp
                  go_at_call 91
                  refine (times_any _ _ _ (by assumption) (by assumption)).mono ?_
                  rintro e x ⟨rfl, j, rfl⟩
                  refine hK.out _ _ (HDR.out _ j hH2) (fun hH3 => ?_)
                  clear hK K
                  refine wpAnyH_take (i := 19) (oi := ({ dst := some 84, op := Op.move (Operand.tmp 103), type := 96, pos := "ref.go:206", after := #[{ on := 18, ground := Ground.data }], guard := none } : Oper)) (v := ?_) rfl (by kernel_rfl) (by kernel_rfl) (by kernel_rfl) (fun _ _ _ h => h) (Or.inl ⟨by rfl, ?_⟩) (by assumption) ?_
                  rotate_left
                  · (intro wz hSw; (try dsimp only at hSw); go_simp; try with_reducible rfl)
                  simp only [Act.put, List.setIfInBounds_toArray, List.set_cons_zero, List.set_cons_succ]
                  refine wpAnyH_take (i := 20) (oi := ({ dst := some 104, op := Op.extract (Operand.tmp 84) 0, type := 2, pos := "ref.go:206", after := #[{ on := 19, ground := Ground.data }], guard := none } : Oper)) (v := ?_) rfl (by kernel_rfl) (by kernel_rfl) (by kernel_rfl) (fun _ _ _ h => h) (Or.inl ⟨by rfl, ?_⟩) (by assumption) ?_
                  rotate_left
                  · (intro wz hSw; (try dsimp only at hSw); go_simp; try with_reducible rfl)
                  simp only [Act.put, List.setIfInBounds_toArray, List.set_cons_zero, List.set_cons_succ]
                  refine wpAnyH_take (i := 21) (oi := ({ dst := some 105, op := Op.extract (Operand.tmp 84) 1, type := 4, pos := "ref.go:206", after := #[{ on := 19, ground := Ground.data }, { on := 22, ground := Ground.gcOnly Departure.lateStores }], guard := none } : Oper)) (v := ?_) rfl (by kernel_rfl) (by kernel_rfl) (by kernel_rfl) (fun _ _ _ h => h) (Or.inl ⟨by rfl, ?_⟩) (by assumption) ?_
                  rotate_left
                  · (intro wz hSw; (try dsimp only at hSw); go_simp; try with_reducible rfl)
                  simp only [Act.put, List.setIfInBounds_toArray, List.set_cons_zero, List.set_cons_succ]
                  refine wpAnyH_take (i := 22) (oi := ({ dst := some 19, op := Op.assign (Operand.tmp 104), type := 2, pos := "ref.go:206", after := #[{ on := 20, ground := Ground.data }, { on := 18, ground := Ground.chain }, { on := 0, ground := Ground.phase }, { on := 1, ground := Ground.phase }, { on := 2, ground := Ground.phase }, { on := 3, ground := Ground.phase }, { on := 4, ground := Ground.phase }, { on := 5, ground := Ground.phase }, { on := 6, ground := Ground.phase }, { on := 7, ground := Ground.phase }, { on := 8, ground := Ground.phase }, { on := 9, ground := Ground.phase }, { on := 10, ground := Ground.phase }, { on := 11, ground := Ground.phase }, { on := 12, ground := Ground.phase }, { on := 13, ground := Ground.phase }, { on := 14, ground := Ground.phase }, { on := 15, ground := Ground.phase }, { on := 16, ground := Ground.phase }, { on := 17, ground := Ground.phase }, { on := 18, ground := Ground.phase }, { on := 19, ground := Ground.phase }, { on := 20, ground := Ground.phase }, { on := 21, ground := Ground.textOnly Departure.lateStores }], guard := none } : Oper)) (v := ?_) rfl (by kernel_rfl) (by kernel_rfl) (by kernel_rfl) (fun _ _ _ h => h) (Or.inl ⟨by rfl, ?_⟩) (by assumption) ?_
                  rotate_left
                  · (intro wz hSw; (try dsimp only at hSw); go_simp; try with_reducible rfl)
                  simp only [Act.put, List.setIfInBounds_toArray, List.set_cons_zero, List.set_cons_succ]
                  refine wpAnyH_take (i := 23) (oi := ({ dst := some 20, op := Op.assign (Operand.tmp 105), type := 4, pos := "ref.go:206", after := #[{ on := 21, ground := Ground.data }, { on := 22, ground := Ground.chain }, { on := 0, ground := Ground.phase }, { on := 1, ground := Ground.phase }, { on := 2, ground := Ground.phase }, { on := 3, ground := Ground.phase }, { on := 4, ground := Ground.phase }, { on := 5, ground := Ground.phase }, { on := 6, ground := Ground.phase }, { on := 7, ground := Ground.phase }, { on := 8, ground := Ground.phase }, { on := 9, ground := Ground.phase }, { on := 10, ground := Ground.phase }, { on := 11, ground := Ground.phase }, { on := 12, ground := Ground.phase }, { on := 13, ground := Ground.phase }, { on := 14, ground := Ground.phase }, { on := 15, ground := Ground.phase }, { on := 16, ground := Ground.phase }, { on := 17, ground := Ground.phase }, { on := 18, ground := Ground.phase }, { on := 19, ground := Ground.phase }, { on := 20, ground := Ground.phase }, { on := 21, ground := Ground.phase }, { on := 22, ground := Ground.phase }], guard := none } : Oper)) (v := ?_) rfl (by kernel_rfl) (by kernel_rfl) (by kernel_rfl) (fun _ _ _ h => h) (Or.inl ⟨by rfl, ?_⟩) (by assumption) ?_
                  rotate_left
                  · (intro wz hSw; (try dsimp only at hSw); go_simp; try with_reducible rfl)
                  simp only [Act.put, List.setIfInBounds_toArray, List.set_cons_zero, List.set_cons_succ]
                  refine wpAnyH_done (by kernel_rfl) ?_ _
                  go_wp2_with fail
                  go_meet
                  case rel => exact ⟨rfl, rfl, hH3.2.2.2.2.out⟩
          · go_simp
            have Q2 := Bx.new w1 b.1 b.2 2
            have P2 := P1.keep ((Below.refl _ _).alloc (Nat.le_refl _) (.cells #[.int .i64 b.1, .int .i64 b.2] 2))
            refine hK.out _ _ (HAL.out _ _ hH1) (fun hH2 => ?_)
            clear hK K
            obtain ⟨w2, hw2⟩ : ∃ w2, w2 = (w1.alloc (.cells #[.int .i64 b.1, .int .i64 b.2] 2)) := ⟨_, rfl⟩
            rw [← hw2] at hH2 P2 Q2 ⊢
            clear hw2
            generalize w1.heap.size = kQ at *
            refine wpAnyH_take (i := 16) (oi := ({ dst := some 101, op := Op.indexAddr 82 (Operand.tmp 98) (Operand.tmp 100), type := 0, pos := "ref.go:206", after := #[{ on := 13, ground := Ground.data }, { on := 15, ground := Ground.data }], guard := none } : Oper)) (v := ?_) rfl (by kernel_rfl) (by kernel_rfl) (by kernel_rfl) (fun _ _ _ h => h) (Or.inl ⟨by rfl, ?_⟩) (by assumption) ?_
            rotate_left
            · (intro wz hSw; (try dsimp only at hSw); go_simp; try with_reducible rfl)
            simp only [Act.put, List.setIfInBounds_toArray, List.set_cons_zero, List.set_cons_succ]
            refine wpAnyH_ready (rs := [8, 17]) (by kernel_rfl) (by simp) ?_
            refine AllReadyH.cons (o := ({ dst := some 93, op := Op.load 2 (Operand.tmp 92), type := 2, pos := "ref.go:206", after := #[{ on := 7, ground := Ground.data }], guard := none } : Oper)) rfl (fun K hK => ?_) (AllReadyH.cons (o := ({ dst := some 102, op := Op.load 2 (Operand.tmp 101), type := 2, pos := "ref.go:206", after := #[{ on := 16, ground := Ground.data }], guard := none } : Oper)) rfl (fun K hK => ?_) AllReadyH.nil)
            · have c0 := P2.1
              have c1 := P2.2
              go_simp
              refine hK.out _ _ hH2 (fun _ => ?_)
              clear hK K c0 c1
              refine wpAnyH_ready (rs := [17]) (by kernel_rfl) (by simp) ?_
              refine AllReadyH.cons (o := ({ dst := some 102, op := Op.load 2 (Operand.tmp 101), type := 2, pos := "ref.go:206", after := #[{ on := 16, ground := Ground.data }], guard := none } : Oper)) rfl (fun K hK => ?_) AllReadyH.nil
              · have c0 := Q2.1
                have c1 := Q2.2
                go_simp
                refine hK.out _ _ hH2 (fun _ => ?_)
                clear hK K c0 c1
                refine wpAnyH_ready (rs := [18]) (by kernel_rfl) (by simp) ?_
                refine AllReadyH.cons (o := ({ dst := some 103, op := Op.call { callee := Callee.value (Operand.func 91), args := #[Operand.tmp 93, Operand.tmp 102], argTypes := #[2, 2] }, type := 96, pos := "ref.go:206", after := #[{ on := 8, ground := Ground.data }, { on := 17, ground := Ground.data }], guard := none } : Oper)) rfl (fun K hK => ?_) AllReadyH.nil
                · go_simp
                  go_at_call 91
                  refine (times_any _ _ _ (by assumption) (by assumption)).mono ?_
                  rintro e x ⟨rfl, j, rfl⟩
                  refine hK.out _ _ (HDR.out _ j hH2) (fun hH3 => ?_)
                  clear hK K
                  refine wpAnyH_take (i := 19) (oi := ({ dst := some 84, op := Op.move (Operand.tmp 103), type := 96, pos := "ref.go:206", after := #[{ on := 18, ground := Ground.data }], guard := none } : Oper)) (v := ?_) rfl (by kernel_rfl) (by kernel_rfl) (by kernel_rfl) (fun _ _ _ h => h) (Or.inl ⟨by rfl, ?_⟩) (by assumption) ?_
                  rotate_left
                  · (intro wz hSw; (try dsimp only at hSw); go_simp; try with_reducible rfl)
                  simp only [Act.put, List.setIfInBounds_toArray, List.set_cons_zero, List.set_cons_succ]
                  refine wpAnyH_take (i := 20) (oi := ({ dst := some 104, op := Op.extract (Operand.tmp 84) 0, type := 2, pos := "ref.go:206", after := #[{ on := 19, ground := Ground.data }], guard := none } : Oper)) (v := ?_) rfl (by kernel_rfl) (by kernel_rfl) (by kernel_rfl) (fun _ _ _ h => h) (Or.inl ⟨by rfl, ?_⟩) (by assumption) ?_
                  rotate_left
                  · (intro wz hSw; (try dsimp only at hSw); go_simp; try with_reducible rfl)
                  simp only [Act.put, List.setIfInBounds_toArray, List.set_cons_zero, List.set_cons_succ]
                  refine wpAnyH_take (i := 21) (oi := ({ dst := some 105, op := Op.extract (Operand.tmp 84) 1, type := 4, pos := "ref.go:206", after := #[{ on := 19, ground := Ground.data }, { on := 22, ground := Ground.gcOnly Departure.lateStores }], guard := none } : Oper)) (v := ?_) rfl (by kernel_rfl) (by kernel_rfl) (by kernel_rfl) (fun _ _ _ h => h) (Or.inl ⟨by rfl, ?_⟩) (by assumption) ?_
                  rotate_left
                  · (intro wz hSw; (try dsimp only at hSw); go_simp; try with_reducible rfl)
                  simp only [Act.put, List.setIfInBounds_toArray, List.set_cons_zero, List.set_cons_succ]
                  refine wpAnyH_take (i := 22) (oi := ({ dst := some 19, op := Op.assign (Operand.tmp 104), type := 2, pos := "ref.go:206", after := #[{ on := 20, ground := Ground.data }, { on := 18, ground := Ground.chain }, { on := 0, ground := Ground.phase }, { on := 1, ground := Ground.phase }, { on := 2, ground := Ground.phase }, { on := 3, ground := Ground.phase }, { on := 4, ground := Ground.phase }, { on := 5, ground := Ground.phase }, { on := 6, ground := Ground.phase }, { on := 7, ground := Ground.phase }, { on := 8, ground := Ground.phase }, { on := 9, ground := Ground.phase }, { on := 10, ground := Ground.phase }, { on := 11, ground := Ground.phase }, { on := 12, ground := Ground.phase }, { on := 13, ground := Ground.phase }, { on := 14, ground := Ground.phase }, { on := 15, ground := Ground.phase }, { on := 16, ground := Ground.phase }, { on := 17, ground := Ground.phase }, { on := 18, ground := Ground.phase }, { on := 19, ground := Ground.phase }, { on := 20, ground := Ground.phase }, { on := 21, ground := Ground.textOnly Departure.lateStores }], guard := none } : Oper)) (v := ?_) rfl (by kernel_rfl) (by kernel_rfl) (by kernel_rfl) (fun _ _ _ h => h) (Or.inl ⟨by rfl, ?_⟩) (by assumption) ?_
                  rotate_left
                  · (intro wz hSw; (try dsimp only at hSw); go_simp; try with_reducible rfl)
                  simp only [Act.put, List.setIfInBounds_toArray, List.set_cons_zero, List.set_cons_succ]
                  refine wpAnyH_take (i := 23) (oi := ({ dst := some 20, op := Op.assign (Operand.tmp 105), type := 4, pos := "ref.go:206", after := #[{ on := 21, ground := Ground.data }, { on := 22, ground := Ground.chain }, { on := 0, ground := Ground.phase }, { on := 1, ground := Ground.phase }, { on := 2, ground := Ground.phase }, { on := 3, ground := Ground.phase }, { on := 4, ground := Ground.phase }, { on := 5, ground := Ground.phase }, { on := 6, ground := Ground.phase }, { on := 7, ground := Ground.phase }, { on := 8, ground := Ground.phase }, { on := 9, ground := Ground.phase }, { on := 10, ground := Ground.phase }, { on := 11, ground := Ground.phase }, { on := 12, ground := Ground.phase }, { on := 13, ground := Ground.phase }, { on := 14, ground := Ground.phase }, { on := 15, ground := Ground.phase }, { on := 16, ground := Ground.phase }, { on := 17, ground := Ground.phase }, { on := 18, ground := Ground.phase }, { on := 19, ground := Ground.phase }, { on := 20, ground := Ground.phase }, { on := 21, ground := Ground.phase }, { on := 22, ground := Ground.phase }], guard := none } : Oper)) (v := ?_) rfl (by kernel_rfl) (by kernel_rfl) (by kernel_rfl) (fun _ _ _ h => h) (Or.inl ⟨by rfl, ?_⟩) (by assumption) ?_
                  rotate_left
                  · (intro wz hSw; (try dsimp only at hSw); go_simp; try with_reducible rfl)
                  simp only [Act.put, List.setIfInBounds_toArray, List.set_cons_zero, List.set_cons_succ]
                  refine wpAnyH_done (by kernel_rfl) ?_ _
                  go_wp2_with fail
                  go_meet
                  case rel => exact ⟨rfl, rfl, hH3.2.2.2.2.out⟩
            · have c0 := Q2.1
              have c1 := Q2.2
              go_simp
              refine hK.out _ _ hH2 (fun _ => ?_)
              clear hK K c0 c1
              refine wpAnyH_ready (rs := [8]) (by kernel_rfl) (by simp) ?_
              refine AllReadyH.cons (o := ({ dst := some 93, op := Op.load 2 (Operand.tmp 92), type := 2, pos := "ref.go:206", after := #[{ on := 7, ground := Ground.data }], guard := none } : Oper)) rfl (fun K hK => ?_) AllReadyH.nil
              · have c0 := P2.1
                have c1 := P2.2
                go_simp
                refine hK.out _ _ hH2 (fun _ => ?_)
                clear hK K c0 c1
                refine wpAnyH_ready (rs := [18]) (by kernel_rfl) (by simp) ?_
                refine AllReadyH.cons (o := ({ dst := some 103, op := Op.call { callee := Callee.value (Operand.func 91), args := #[Operand.tmp 93, Operand.tmp 102], argTypes := #[2, 2] }, type := 96, pos := "ref.go:206", after := #[{ on := 8, ground := Ground.data }, { on := 17, ground := Ground.data }], guard := none } : Oper)) rfl (fun K hK => ?_) AllReadyH.nil
                · go_simp
                  go_at_call 91
                  refine (times_any _ _ _ (by assumption) (by assumption)).mono ?_
                  rintro e x ⟨rfl, j, rfl⟩
                  refine hK.out _ _ (HDR.out _ j hH2) (fun hH3 => ?_)
                  clear hK K
                  refine wpAnyH_take (i := 19) (oi := ({ dst := some 84, op := Op.move (Operand.tmp 103), type := 96, pos := "ref.go:206", after := #[{ on := 18, ground := Ground.data }], guard := none } : Oper)) (v := ?_) rfl (by kernel_rfl) (by kernel_rfl) (by kernel_rfl) (fun _ _ _ h => h) (Or.inl ⟨by rfl, ?_⟩) (by assumption) ?_
                  rotate_left
                  · (intro wz hSw; (try dsimp only at hSw); go_simp; try with_reducible rfl)
                  simp only [Act.put, List.setIfInBounds_toArray, List.set_cons_zero, List.set_cons_succ]
                  refine wpAnyH_take (i := 20) (oi := ({ dst := some 104, op := Op.extract (Operand.tmp 84) 0, type := 2, pos := "ref.go:206", after := #[{ on := 19, ground := Ground.data }], guard := none } : Oper)) (v := ?_) rfl (by kernel_rfl) (by kernel_rfl) (by kernel_rfl) (fun _ _ _ h => h) (Or.inl ⟨by rfl, ?_⟩) (by assumption) ?_
                  rotate_left
                  · (intro wz hSw; (try dsimp only at hSw); go_simp; try with_reducible rfl)
                  simp only [Act.put, List.setIfInBounds_toArray, List.set_cons_zero, List.set_cons_succ]
                  refine wpAnyH_take (i := 21) (oi := ({ dst := some 105, op := Op.extract (Operand.tmp 84) 1, type := 4, pos := "ref.go:206", after := #[{ on := 19, ground := Ground.data }, { on := 22, ground := Ground.gcOnly Departure.lateStores }], guard := none } : Oper)) (v := ?_) rfl (by kernel_rfl) (by kernel_rfl) (by kernel_rfl) (fun _ _ _ h => h) (Or.inl ⟨by rfl, ?_⟩) (by assumption) ?_
                  rotate_left
                  · (intro wz hSw; (try dsimp only at hSw); go_simp; try with_reducible rfl)
                  simp only [Act.put, List.setIfInBounds_toArray, List.set_cons_zero, List.set_cons_succ]
                  refine wpAnyH_take (i := 22) (oi := ({ dst := some 19, op := Op.assign (Operand.tmp 104), type := 2, pos := "ref.go:206", after := #[{ on := 20, ground := Ground.data }, { on := 18, ground := Ground.chain }, { on := 0, ground := Ground.phase }, { on := 1, ground := Ground.phase }, { on := 2, ground := Ground.phase }, { on := 3, ground := Ground.phase }, { on := 4, ground := Ground.phase }, { on := 5, ground := Ground.phase }, { on := 6, ground := Ground.phase }, { on := 7, ground := Ground.phase }, { on := 8, ground := Ground.phase }, { on := 9, ground := Ground.phase }, { on := 10, ground := Ground.phase }, { on := 11, ground := Ground.phase }, { on := 12, ground := Ground.phase }, { on := 13, ground := Ground.phase }, { on := 14, ground := Ground.phase }, { on := 15, ground := Ground.phase }, { on := 16, ground := Ground.phase }, { on := 17, ground := Ground.phase }, { on := 18, ground := Ground.phase }, { on := 19, ground := Ground.phase }, { on := 20, ground := Ground.phase }, { on := 21, ground := Ground.textOnly Departure.lateStores }], guard := none } : Oper)) (v := ?_) rfl (by kernel_rfl) (by kernel_rfl) (by kernel_rfl) (fun _ _ _ h => h) (Or.inl ⟨by rfl, ?_⟩) (by assumption) ?_
                  rotate_left
                  · (intro wz hSw; (try dsimp only at hSw); go_simp; try with_reducible rfl)
                  simp only [Act.put, List.setIfInBounds_toArray, List.set_cons_zero, List.set_cons_succ]
                  refine wpAnyH_take (i := 23) (oi := ({ dst := some 20, op := Op.assign (Operand.tmp 105), type := 4, pos := "ref.go:206", after := #[{ on := 21, ground := Ground.data }, { on := 22, ground := Ground.chain }, { on := 0, ground := Ground.phase }, { on := 1, ground := Ground.phase }, { on := 2, ground := Ground.phase }, { on := 3, ground := Ground.phase }, { on := 4, ground := Ground.phase }, { on := 5, ground := Ground.phase }, { on := 6, ground := Ground.phase }, { on := 7, ground := Ground.phase }, { on := 8, ground := Ground.phase }, { on := 9, ground := Ground.phase }, { on := 10, ground := Ground.phase }, { on := 11, ground := Ground.phase }, { on := 12, ground := Ground.phase }, { on := 13, ground := Ground.phase }, { on := 14, ground := Ground.phase }, { on := 15, ground := Ground.phase }, { on := 16, ground := Ground.phase }, { on := 17, ground := Ground.phase }, { on := 18, ground := Ground.phase }, { on := 19, ground := Ground.phase }, { on := 20, ground := Ground.phase }, { on := 21, ground := Ground.phase }, { on := 22, ground := Ground.phase }], guard := none } : Oper)) (v := ?_) rfl (by kernel_rfl) (by kernel_rfl) (by kernel_rfl) (fun _ _ _ h => h) (Or.inl ⟨by rfl, ?_⟩) (by assumption) ?_
                  rotate_left
                  · (intro wz hSw; (try dsimp only at hSw); go_simp; try with_reducible rfl)
                  simp only [Act.put, List.setIfInBounds_toArray, List.set_cons_zero, List.set_cons_succ]
                  refine wpAnyH_done (by kernel_rfl) ?_ _
                  go_wp2_with fail
                  go_meet
                  case rel => exact ⟨rfl, rfl, hH3.2.2.2.2.out⟩
        · go_simp
          have Q1 := Bx.new w0 b.1 b.2 2
          refine hK.out _ _ (HAL.out _ _ hH0) (fun hH1 => ?_)
          clear hK K
          obtain ⟨w1, hw1⟩ : ∃ w1, w1 = (w0.alloc (.cells #[.int .i64 b.1, .int .i64 b.2] 2)) := ⟨_, rfl⟩
          rw [← hw1] at hH1 Q1 ⊢
          clear hw1
          generalize w0.heap.size = kQ at *
          refine wpAnyH_take (i := 16) (oi := ({ dst := some 101, op := Op.indexAddr 82 (Operand.tmp 98) (Operand.tmp 100), type := 0, pos := "ref.go:206", after := #[{ on := 13, ground := Ground.data }, { on := 15, ground := Ground.data }], guard := none } : Oper)) (v := ?_) rfl (by kernel_rfl) (by kernel_rfl) (by kernel_rfl) (fun _ _ _ h => h) (Or.inl ⟨by rfl, ?_⟩) (by assumption) ?_
          rotate_left
          · (intro wz hSw; (try dsimp only at hSw); go_simp; try with_reducible rfl)
          simp only [Act.put, List.setIfInBounds_toArray, List.set_cons_zero, List.set_cons_succ]
          refine wpAnyH_ready (rs := [4, 17]) (by kernel_rfl) (by simp) ?_
          refine AllReadyH.cons (o := ({ dst := some 89, op := Op.buildSlice 82 2 #[(0, Operand.tmp 86), (1, Operand.tmp 88)], type := 82, pos := "ref.go:206", after := #[{ on := 1, ground := Ground.data }, { on := 3, ground := Ground.data }], guard := none } : Oper)) rfl (fun K hK => ?_) (AllReadyH.cons (o := ({ dst := some 102, op := Op.load 2 (Operand.tmp 101), type := 2, pos := "ref.go:206", after := #[{ on := 16, ground := Ground.data }], guard := none } : Oper)) rfl (fun K hK => ?_) AllReadyH.nil)
          · go_simp
            have P2 := Bx.new w1 a.1 a.2 2
            have Q2 := Q1.keep ((Below.refl _ _).alloc (Nat.le_refl _) (.cells #[.int .i64 a.1, .int .i64 a.2] 2))
            refine hK.out _ _ (HAL.out _ _ hH1) (fun hH2 => ?_)
            clear hK K
            obtain ⟨w2, hw2⟩ : ∃ w2, w2 = (w1.alloc (.cells #[.int .i64 a.1, .int .i64 a.2] 2)) := ⟨_, rfl⟩
            rw [← hw2] at hH2 Q2 P2 ⊢
            clear hw2
            generalize w1.heap.size = kP at *
            refine wpAnyH_take (i := 7) (oi := ({ dst := some 92, op := Op.indexAddr 82 (Operand.tmp 89) (Operand.tmp 91), type := 0, pos := "ref.go:206", after := #[{ on := 4, ground := Ground.data }, { on := 6, ground := Ground.data }], guard := none } : Oper)) (v := ?_) rfl (by kernel_rfl) (by kernel_rfl) (by kernel_rfl) (fun _ _ _ h => h) (Or.inl ⟨by rfl, ?_⟩) (by assumption) ?_
            rotate_left
            · (intro wz hSw; (try dsimp only at hSw); go_simp; try with_reducible rfl)
            simp only [Act.put, List.setIfInBounds_toArray, List.set_cons_zero, List.set_cons_succ]
            refine wpAnyH_ready (rs := [8, 17]) (by kernel_rfl) (by simp) ?_
            refine AllReadyH.cons (o := ({ dst := some 93, op := Op.load 2 (Operand.tmp 92), type := 2, pos := "ref.go:206", after := #[{ on := 7, ground := Ground.data }], guard := none } : Oper)) rfl (fun K hK => ?_) (AllReadyH.cons (o := ({ dst := some 102, op := Op.load 2 (Operand.tmp 101), type := 2, pos := "ref.go:206", after := #[{ on := 16, ground := Ground.data }], guard := none } : Oper)) rfl (fun K hK => ?_) AllReadyH.nil)
            · have c0 := P2.1
              have c1 := P2.2
              go_simp
              refine hK.out _ _ hH2 (fun _ => ?_)
              clear hK K c0 c1
              refine wpAnyH_ready (rs := [17]) (by kernel_rfl) (by simp) ?_
              refine AllReadyH.cons (o := ({ dst := some 102, op := Op.load 2 (Operand.tmp 101), type := 2, pos := "ref.go:206", after := #[{ on := 16, ground := Ground.data }], guard := none } : Oper)) rfl (fun K hK => ?_) AllReadyH.nil
              · have c0 := Q2.1
                have c1 := Q2.2
                go_simp
                refine hK.out _ _ hH2 (fun _ => ?_)
                clear hK K c0 c1
                refine wpAnyH_ready (rs := [18]) (by kernel_rfl) (by simp) ?_
                refine AllReadyH.cons (o := ({ dst := some 103, op := Op.call { callee := Callee.value (Operand.func 91), args := #[Operand.tmp 93, Operand.tmp 102], argTypes := #[2, 2] }, type := 96, pos := "ref.go:206", after := #[{ on := 8, ground := Ground.data }, { on := 17, ground := Ground.data }], guard := none } : Oper)) rfl (fun K hK => ?_) AllReadyH.nil
                · go_simp
                  go_at_call 91
                  refine (times_any _ _ _ (by assumption) (by assumption)).mono ?_
                  rintro e x ⟨rfl, j, rfl⟩
                  refine hK.out _ _ (HDR.out _ j hH2) (fun hH3 => ?_)
                  clear hK K
                  refine wpAnyH_take (i := 19) (oi := ({ dst := some 84, op := Op.move (Operand.tmp 103), type := 96, pos := "ref.go:206", after := #[{ on := 18, ground := Ground.data }], guard := none } : Oper)) (v := ?_) rfl (by kernel_rfl) (by kernel_rfl) (by kernel_rfl) (fun _ _ _ h => h) (Or.inl ⟨by rfl, ?_⟩) (by assumption) ?_
                  rotate_left
                  · (intro wz hSw; (try dsimp only at hSw); go_simp; try with_reducible rfl)
                  simp only [Act.put, List.setIfInBounds_toArray, List.set_cons_zero, List.set_cons_succ]
                  refine wpAnyH_take (i := 20) (oi := ({ dst := some 104, op := Op.extract (Operand.tmp 84) 0, type := 2, pos := "ref.go:206", after := #[{ on := 19, ground := Ground.data }], guard := none } : Oper)) (v := ?_) rfl (by kernel_rfl) (by kernel_rfl) (by kernel_rfl) (fun _ _ _ h => h) (Or.inl ⟨by rfl, ?_⟩) (by assumption) ?_
                  rotate_left
                  · (intro wz hSw; (try dsimp only at hSw); go_simp; try with_reducible rfl)
                  simp only [Act.put, List.setIfInBounds_toArray, List.set_cons_zero, List.set_cons_succ]
                  refine wpAnyH_take (i := 21) (oi := ({ dst := some 105, op := Op.extract (Operand.tmp 84) 1, type := 4, pos := "ref.go:206", after := #[{ on := 19, ground := Ground.data }, { on := 22, ground := Ground.gcOnly Departure.lateStores }], guard := none } : Oper)) (v := ?_) rfl (by kernel_rfl) (by kernel_rfl) (by kernel_rfl) (fun _ _ _ h => h) (Or.inl ⟨by rfl, ?_⟩) (by assumption) ?_
                  rotate_left
                  · (intro wz hSw; (try dsimp only at hSw); go_simp; try with_reducible rfl)
                  simp only [Act.put, List.setIfInBounds_toArray, List.set_cons_zero, List.set_cons_succ]
                  refine wpAnyH_take (i := 22) (oi := ({ dst := some 19, op := Op.assign (Operand.tmp 104), type := 2, pos := "ref.go:206", after := #[{ on := 20, ground := Ground.data }, { on := 18, ground := Ground.chain }, { on := 0, ground := Ground.phase }, { on := 1, ground := Ground.phase }, { on := 2, ground := Ground.phase }, { on := 3, ground := Ground.phase }, { on := 4, ground := Ground.phase }, { on := 5, ground := Ground.phase }, { on := 6, ground := Ground.phase }, { on := 7, ground := Ground.phase }, { on := 8, ground := Ground.phase }, { on := 9, ground := Ground.phase }, { on := 10, ground := Ground.phase }, { on := 11, ground := Ground.phase }, { on := 12, ground := Ground.phase }, { on := 13, ground := Ground.phase }, { on := 14, ground := Ground.phase }, { on := 15, ground := Ground.phase }, { on := 16, ground := Ground.phase }, { on := 17, ground := Ground.phase }, { on := 18, ground := Ground.phase }, { on := 19, ground := Ground.phase }, { on := 20, ground := Ground.phase }, { on := 21, ground := Ground.textOnly Departure.lateStores }], guard := none } : Oper)) (v := ?_) rfl (by kernel_rfl) (by kernel_rfl) (by kernel_rfl) (fun _ _ _ h => h) (Or.inl ⟨by rfl, ?_⟩) (by assumption) ?_
                  rotate_left
                  · (intro wz hSw; (try dsimp only at hSw); go_simp; try with_reducible rfl)
                  simp only [Act.put, List.setIfInBounds_toArray, List.set_cons_zero, List.set_cons_succ]
                  refine wpAnyH_take (i := 23) (oi := ({ dst := some 20, op := Op.assign (Operand.tmp 105), type := 4, pos := "ref.go:206", after := #[{ on := 21, ground := Ground.data }, { on := 22, ground := Ground.chain }, { on := 0, ground := Ground.phase }, { on := 1, ground := Ground.phase }, { on := 2, ground := Ground.phase }, { on := 3, ground := Ground.phase }, { on := 4, ground := Ground.phase }, { on := 5, ground := Ground.phase }, { on := 6, ground := Ground.phase }, { on := 7, ground := Ground.phase }, { on := 8, ground := Ground.phase }, { on := 9, ground := Ground.phase }, { on := 10, ground := Ground.phase }, { on := 11, ground := Ground.phase }, { on := 12, ground := Ground.phase }, { on := 13, ground := Ground.phase }, { on := 14, ground := Ground.phase }, { on := 15, ground := Ground.phase }, { on := 16, ground := Ground.phase }, { on := 17, ground := Ground.phase }, { on := 18, ground := Ground.phase }, { on := 19, ground := Ground.phase }, { on := 20, ground := Ground.phase }, { on := 21, ground := Ground.phase }, { on := 22, ground := Ground.phase }], guard := none } : Oper)) (v := ?_) rfl (by kernel_rfl) (by kernel_rfl) (by kernel_rfl) (fun _ _ _ h => h) (Or.inl ⟨by rfl, ?_⟩) (by assumption) ?_
                  rotate_left
                  · (intro wz hSw; (try dsimp only at hSw); go_simp; try with_reducible rfl)
                  simp only [Act.put, List.setIfInBounds_toArray, List.set_cons_zero, List.set_cons_succ]
                  refine wpAnyH_done (by kernel_rfl) ?_ _
                  go_wp2_with fail
                  go_meet
                  case rel => exact ⟨rfl, rfl, hH3.2.2.2.2.out⟩
            · have c0 := Q2.1
              have c1 := Q2.2
              go_simp
              refine hK.out _ _ hH2 (fun _ => ?_)
              clear hK K c0 c1
              refine wpAnyH_ready (rs := [8]) (by kernel_rfl) (by simp) ?_
              refine AllReadyH.cons (o := ({ dst := some 93, op := Op.load 2 (Operand.tmp 92), type := 2, pos := "ref.go:206", after := #[{ on := 7, ground := Ground.data }], guard := none } : Oper)) rfl (fun K hK => ?_) AllReadyH.nil
              · have c0 := P2.1
                have c1 := P2.2
                go_simp
                refine hK.out _ _ hH2 (fun _ => ?_)
                clear hK K c0 c1
                refine wpAnyH_ready (rs := [18]) (by kernel_rfl) (by simp) ?_
                refine AllReadyH.cons (o := ({ dst := some 103, op := Op.call { callee := Callee.value (Operand.func 91), args := #[Operand.tmp 93, Operand.tmp 102], argTypes := #[2, 2] }, type := 96, pos := "ref.go:206", after := #[{ on := 8, ground := Ground.data }, { on := 17, ground := Ground.data }], guard := none } : Oper)) rfl (fun K hK => ?_) AllReadyH.nil
                · go_simp
                  go_at_call 91
                  refine (times_any _ _ _ (by assumption) (by assumption)).mono ?_
                  rintro e x ⟨rfl, j, rfl⟩
                  refine hK.out _ _ (HDR.out _ j hH2) (fun hH3 => ?_)
                  clear hK K
                  refine wpAnyH_take (i := 19) (oi := ({ dst := some 84, op := Op.move (Operand.tmp 103), type := 96, pos := "ref.go:206", after := #[{ on := 18, ground := Ground.data }], guard := none } : Oper)) (v := ?_) rfl (by kernel_rfl) (by kernel_rfl) (by kernel_rfl) (fun _ _ _ h => h) (Or.inl ⟨by rfl, ?_⟩) (by assumption) ?_
                  rotate_left
                  · (intro wz hSw; (try dsimp only at hSw); go_simp; try with_reducible rfl)
                  simp only [Act.put, List.setIfInBounds_toArray, List.set_cons_zero, List.set_cons_succ]
                  refine wpAnyH_take (i := 20) (oi := ({ dst := some 104, op := Op.extract (Operand.tmp 84) 0, type := 2, pos := "ref.go:206", after := #[{ on := 19, ground := Ground.data }], guard := none } : Oper)) (v := ?_) rfl (by kernel_rfl) (by kernel_rfl) (by kernel_rfl) (fun _ _ _ h => h) (Or.inl ⟨by rfl, ?_⟩) (by assumption) ?_
                  rotate_left
                  · (intro wz hSw; (try dsimp only at hSw); go_simp; try with_reducible rfl)
                  simp only [Act.put, List.setIfInBounds_toArray, List.set_cons_zero, List.set_cons_succ]
                  refine wpAnyH_take (i := 21) (oi := ({ dst := some 105, op := Op.extract (Operand.tmp 84) 1, type := 4, pos := "ref.go:206", after := #[{ on := 19, ground := Ground.data }, { on := 22, ground := Ground.gcOnly Departure.lateStores }], guard := none } : Oper)) (v := ?_) rfl (by kernel_rfl) (by kernel_rfl) (by kernel_rfl) (fun _ _ _ h => h) (Or.inl ⟨by rfl, ?_⟩) (by assumption) ?_
                  rotate_left
                  · (intro wz hSw; (try dsimp only at hSw); go_simp; try with_reducible rfl)
                  simp only [Act.put, List.setIfInBounds_toArray, List.set_cons_zero, List.set_cons_succ]
                  refine wpAnyH_take (i := 22) (oi := ({ dst := some 19, op := Op.assign (Operand.tmp 104), type := 2, pos := "ref.go:206", after := #[{ on := 20, ground := Ground.data }, { on := 18, ground := Ground.chain }, { on := 0, ground := Ground.phase }, { on := 1, ground := Ground.phase }, { on := 2, ground := Ground.phase }, { on := 3, ground := Ground.phase }, { on := 4, ground := Ground.phase }, { on := 5, ground := Ground.phase }, { on := 6, ground := Ground.phase }, { on := 7, ground := Ground.phase }, { on := 8, ground := Ground.phase }, { on := 9, ground := Ground.phase }, { on := 10, ground := Ground.phase }, { on := 11, ground := Ground.phase }, { on := 12, ground := Ground.phase }, { on := 13, ground := Ground.phase }, { on := 14, ground := Ground.phase }, { on := 15, ground := Ground.phase }, { on := 16, ground := Ground.phase }, { on := 17, ground := Ground.phase }, { on := 18, ground := Ground.phase }, { on := 19, ground := Ground.phase }, { on := 20, ground := Ground.phase }, { on := 21, ground := Ground.textOnly Departure.lateStores }], guard := none } : Oper)) (v := ?_) rfl (by kernel_rfl) (by kernel_rfl) (by kernel_rfl) (fun _ _ _ h => h) (Or.inl ⟨by rfl, ?_⟩) (by assumption) ?_
                  rotate_left
                  · (intro wz hSw; (try dsimp only at hSw); go_simp; try with_reducible rfl)
                  simp only [Act.put, List.setIfInBounds_toArray, List.set_cons_zero, List.set_cons_succ]
                  refine wpAnyH_take (i := 23) (oi := ({ dst := some 20, op := Op.assign (Operand.tmp 105), type := 4, pos := "ref.go:206", after := #[{ on := 21, ground := Ground.data }, { on := 22, ground := Ground.chain }, { on := 0, ground := Ground.phase }, { on := 1, ground := Ground.phase }, { on := 2, ground := Ground.phase }, { on := 3, ground := Ground.phase }, { on := 4, ground := Ground.phase }, { on := 5, ground := Ground.phase }, { on := 6, ground := Ground.phase }, { on := 7, ground := Ground.phase }, { on := 8, ground := Ground.phase }, { on := 9, ground := Ground.phase }, { on := 10, ground := Ground.phase }, { on := 11, ground := Ground.phase }, { on := 12, ground := Ground.phase }, { on := 13, ground := Ground.phase }, { on := 14, ground := Ground.phase }, { on := 15, ground := Ground.phase }, { on := 16, ground := Ground.phase }, { on := 17, ground := Ground.phase }, { on := 18, ground := Ground.phase }, { on := 19, ground := Ground.phase }, { on := 20, ground := Ground.phase }, { on := 21, ground := Ground.phase }, { on := 22, ground := Ground.phase }], guard := none } : Oper)) (v := ?_) rfl (by kernel_rfl) (by kernel_rfl) (by kernel_rfl) (fun _ _ _ h => h) (Or.inl ⟨by rfl, ?_⟩) (by assumption) ?_
                  rotate_left
                  · (intro wz hSw; (try dsimp only at hSw); go_simp; try with_reducible rfl)
                  simp only [Act.put, List.setIfInBounds_toArray, List.set_cons_zero, List.set_cons_succ]
                  refine wpAnyH_done (by kernel_rfl) ?_ _
                  go_wp2_with fail
                  go_meet
                  case rel => exact ⟨rfl, rfl, hH3.2.2.2.2.out⟩
          · have c0 := Q1.1
            have c1 := Q1.2
            go_simp
            refine hK.out _ _ hH1 (fun _ => ?_)
            clear hK K c0 c1
            refine wpAnyH_ready (rs := [4]) (by kernel_rfl) (by simp) ?_
            refine AllReadyH.cons (o := ({ dst := some 89, op := Op.buildSlice 82 2 #[(0, Operand.tmp 86), (1, Operand.tmp 88)], type := 82, pos := "ref.go:206", after := #[{ on := 1, ground := Ground.data }, { on := 3, ground := Ground.data }], guard := none } : Oper)) rfl (fun K hK => ?_) AllReadyH.nil
            · go_simp
              have P2 := Bx.new w1 a.1 a.2 2
              have Q2 := Q1.keep ((Below.refl _ _).alloc (Nat.le_refl _) (.cells #[.int .i64 a.1, .int .i64 a.2] 2))
              refine hK.out _ _ (HAL.out _ _ hH1) (fun hH2 => ?_)
              clear hK K
              obtain ⟨w2, hw2⟩ : ∃ w2, w2 = (w1.alloc (.cells #[.int .i64 a.1, .int .i64 a.2] 2)) := ⟨_, rfl⟩
              rw [← hw2] at hH2 Q2 P2 ⊢
              clear hw2
              generalize w1.heap.size = kP at *
              refine wpAnyH_take (i := 7) (oi := ({ dst := some 92, op := Op.indexAddr 82 (Operand.tmp 89) (Operand.tmp 91), type := 0, pos := "ref.go:206", after := #[{ on := 4, ground := Ground.data }, { on := 6, ground := Ground.data }], guard := none } : Oper)) (v := ?_) rfl (by kernel_rfl) (by kernel_rfl) (by kernel_rfl) (fun _ _ _ h => h) (Or.inl ⟨by rfl, ?_⟩) (by assumption) ?_
              rotate_left
              · (intro wz hSw; (try dsimp only at hSw); go_simp; try with_reducible rfl)
              simp only [Act.put, List.setIfInBounds_toArray, List.set_cons_zero, List.set_cons_succ]
              refine wpAnyH_ready (rs := [8]) (by kernel_rfl) (by simp) ?_
              refine AllReadyH.cons (o := ({ dst := some 93, op := Op.load 2 (Operand.tmp 92), type := 2, pos := "ref.go:206", after := #[{ on := 7, ground := Ground.data }], guard := none } : Oper)) rfl (fun K hK => ?_) AllReadyH.nil
              · have c0 := P2.1
                have c1 := P2.2
                go_simp
                refine hK.out _ _ hH2 (fun _ => ?_)
                clear hK K c0 c1
                refine wpAnyH_ready (rs := [18]) (by kernel_rfl) (by simp) ?_
                refine AllReadyH.cons (o := ({ dst := some 103, op := Op.call { callee := Callee.value (Operand.func 91), args := #[Operand.tmp 93, Operand.tmp 102], argTypes := #[2, 2] }, type := 96, pos := "ref.go:206", after := #[{ on := 8, ground := Ground.data }, { on := 17, ground := Ground.data }], guard := none } : Oper)) rfl (fun K hK => ?_) AllReadyH.nil
                · go_simp
                  go_at_call 91
                  refine (times_any _ _ _ (by assumption) (by assumption)).mono ?_
                  rintro e x ⟨rfl, j, rfl⟩
                  refine hK.out _ _ (HDR.out _ j hH2) (fun hH3 => ?_)
                  clear hK K
                  refine wpAnyH_take (i := 19) (oi := ({ dst := some 84, op := Op.move (Operand.tmp 103), type := 96, pos := "ref.go:206", after := #[{ on := 18, ground := Ground.data }], guard := none } : Oper)) (v := ?_) rfl (by kernel_rfl) (by kernel_rfl) (by kernel_rfl) (fun _ _ _ h => h) (Or.inl ⟨by rfl, ?_⟩) (by assumption) ?_
                  rotate_left
                  · (intro wz hSw; (try dsimp only at hSw); go_simp; try with_reducible rfl)
                  simp only [Act.put, List.setIfInBounds_toArray, List.set_cons_zero, List.set_cons_succ]
                  refine wpAnyH_take (i := 20) (oi := ({ dst := some 104, op := Op.extract (Operand.tmp 84) 0, type := 2, pos := "ref.go:206", after := #[{ on := 19, ground := Ground.data }], guard := none } : Oper)) (v := ?_) rfl (by kernel_rfl) (by kernel_rfl) (by kernel_rfl) (fun _ _ _ h => h) (Or.inl ⟨by rfl, ?_⟩) (by assumption) ?_
                  rotate_left
                  · (intro wz hSw; (try dsimp only at hSw); go_simp; try with_reducible rfl)
                  simp only [Act.put, List.setIfInBounds_toArray, List.set_cons_zero, List.set_cons_succ]
                  refine wpAnyH_take (i := 21) (oi := ({ dst := some 105, op := Op.extract (Operand.tmp 84) 1, type := 4, pos := "ref.go:206", after := #[{ on := 19, ground := Ground.data }, { on := 22, ground := Ground.gcOnly Departure.lateStores }], guard := none } : Oper)) (v := ?_) rfl (by kernel_rfl) (by kernel_rfl) (by kernel_rfl) (fun _ _ _ h => h) (Or.inl ⟨by rfl, ?_⟩) (by assumption) ?_
                  rotate_left
                  · (intro wz hSw; (try dsimp only at hSw); go_simp; try with_reducible rfl)
                  simp only [Act.put, List.setIfInBounds_toArray, List.set_cons_zero, List.set_cons_succ]
                  refine wpAnyH_take (i := 22) (oi := ({ dst := some 19, op := Op.assign (Operand.tmp 104), type := 2, pos := "ref.go:206", after := #[{ on := 20, ground := Ground.data }, { on := 18, ground := Ground.chain }, { on := 0, ground := Ground.phase }, { on := 1, ground := Ground.phase }, { on := 2, ground := Ground.phase }, { on := 3, ground := Ground.phase }, { on := 4, ground := Ground.phase }, { on := 5, ground := Ground.phase }, { on := 6, ground := Ground.phase }, { on := 7, ground := Ground.phase }, { on := 8, ground := Ground.phase }, { on := 9, ground := Ground.phase }, { on := 10, ground := Ground.phase }, { on := 11, ground := Ground.phase }, { on := 12, ground := Ground.phase }, { on := 13, ground := Ground.phase }, { on := 14, ground := Ground.phase }, { on := 15, ground := Ground.phase }, { on := 16, ground := Ground.phase }, { on := 17, ground := Ground.phase }, { on := 18, ground := Ground.phase }, { on := 19, ground := Ground.phase }, { on := 20, ground := Ground.phase }, { on := 21, ground := Ground.textOnly Departure.lateStores }], guard := none } : Oper)) (v := ?_) rfl (by kernel_rfl) (by kernel_rfl) (by kernel_rfl) (fun _ _ _ h => h) (Or.inl ⟨by rfl, ?_⟩) (by assumption) ?_
                  rotate_left
                  · (intro wz hSw; (try dsimp only at hSw); go_simp; try with_reducible rfl)
                  simp only [Act.put, List.setIfInBounds_toArray, List.set_cons_zero, List.set_cons_succ]
                  refine wpAnyH_take (i := 23) (oi := ({ dst := some 20, op := Op.assign (Operand.tmp 105), type := 4, pos := "ref.go:206", after := #[{ on := 21, ground := Ground.data }, { on := 22, ground := Ground.chain }, { on := 0, ground := Ground.phase }, { on := 1, ground := Ground.phase }, { on := 2, ground := Ground.phase }, { on := 3, ground := Ground.phase }, { on := 4, ground := Ground.phase }, { on := 5, ground := Ground.phase }, { on := 6, ground := Ground.phase }, { on := 7, ground := Ground.phase }, { on := 8, ground := Ground.phase }, { on := 9, ground := Ground.phase }, { on := 10, ground := Ground.phase }, { on := 11, ground := Ground.phase }, { on := 12, ground := Ground.phase }, { on := 13, ground := Ground.phase }, { on := 14, ground := Ground.phase }, { on := 15, ground := Ground.phase }, { on := 16, ground := Ground.phase }, { on := 17, ground := Ground.phase }, { on := 18, ground := Ground.phase }, { on := 19, ground := Ground.phase }, { on := 20, ground := Ground.phase }, { on := 21, ground := Ground.phase }, { on := 22, ground := Ground.phase }], guard := none } : Oper)) (v := ?_) rfl (by kernel_rfl) (by kernel_rfl) (by kernel_rfl) (fun _ _ _ h => h) (Or.inl ⟨by rfl, ?_⟩) (by assumption) ?_
                  rotate_left
                  · (intro wz hSw; (try dsimp only at hSw); go_simp; try with_reducible rfl)
                  simp only [Act.put, List.setIfInBounds_toArray, List.set_cons_zero, List.set_cons_succ]
                  refine wpAnyH_done (by kernel_rfl) ?_ _
                  go_wp2_with fail
                  go_meet
                  case rel => exact ⟨rfl, rfl, hH3.2.2.2.2.out⟩
      case rest =>
        obtain ⟨rfl, rfl, hS2⟩ := hcut
        clear HB HAL HDR hS1
        cases hB : ((true && fit (a.1 * b.1)) && fit (a.1 * b.2))
        · go_wp2_with (at_builtin; refine wpList_app1 W5 _ rfl (.tmp 106) (.tmp 108) rfl _ [(wrap64 (a.1 * b.1)), (wrap64 (a.1 * b.2))] (wrap64 (a.2 * b.1)) hS2.out rfl rfl (Nat.le_of_ble_eq_true rfl) ?_; intro p2 c2 w2 hS3; replace hS3 := (hide hS3))
          go_round
          case rel => exact Or.inr (Or.inr (Or.inr (Or.inl ⟨rfl, by rw [hB]; simp, hS3.out⟩)))
          case measure => simp [intOf]
        · go_wp2_with (at_builtin; refine wpList_app1 W5 _ rfl (.tmp 106) (.tmp 108) rfl _ [(wrap64 (a.1 * b.1)), (wrap64 (a.1 * b.2))] (wrap64 (a.2 * b.1)) hS2.out rfl rfl (Nat.le_of_ble_eq_true rfl) ?_; intro p2 c2 w2 hS3; replace hS3 := (hide hS3))
          go_round
          case rel => exact Or.inr (Or.inr (Or.inr (Or.inl ⟨rfl, by rw [hB]; simp, hS3.out⟩)))
          case measure => simp [intOf]
    · obtain ⟨p1, c1, rfl⟩ := (hS.out).slice
      have HB : Hid (∀ w2 : World, St W5 w2 (.slice p1 3 c1) [(wrap64 (a.1 * b.1)), (wrap64 (a.1 * b.2)), (wrap64 (a.2 * b.1))] → (w2.cell? ⟨A, 0, none⟩ = some (.int .i64 a.1) ∧ w2.cell? ⟨A, 1, none⟩ = some (.int .i64 a.2) ∧ w2.cell? ⟨A + 1, 0, none⟩ = some (.int .i64 b.1) ∧ w2.cell? ⟨A + 1, 1, none⟩ = some (.int .i64 b.2) ∧ Hid (St W5 w2 (.slice p1 3 c1) [(wrap64 (a.1 * b.1)), (wrap64 (a.1 * b.2)), (wrap64 (a.2 * b.1))]))) := fun w2 h => by
        have x := HX5.out.keep h.bel
        exact ⟨x.xa.1, x.xa.2, x.xb.1, x.xb.2, h⟩
      have HAL : Hid (∀ (w2 : World) (o : Obj), (w2.cell? ⟨A, 0, none⟩ = some (.int .i64 a.1) ∧ w2.cell? ⟨A, 1, none⟩ = some (.int .i64 a.2) ∧ w2.cell? ⟨A + 1, 0, none⟩ = some (.int .i64 b.1) ∧ w2.cell? ⟨A + 1, 1, none⟩ = some (.int .i64 b.2) ∧ Hid (St W5 w2 (.slice p1 3 c1) [(wrap64 (a.1 * b.1)), (wrap64 (a.1 * b.2)), (wrap64 (a.2 * b.1))])) → ((w2.alloc o).cell? ⟨A, 0, none⟩ = some (.int .i64 a.1) ∧ (w2.alloc o).cell? ⟨A, 1, none⟩ = some (.int .i64 a.2) ∧ (w2.alloc o).cell? ⟨A + 1, 0, none⟩ = some (.int .i64 b.1) ∧ (w2.alloc o).cell? ⟨A + 1, 1, none⟩ = some (.int .i64 b.2) ∧ Hid (St W5 (w2.alloc o) (.slice p1 3 c1) [(wrap64 (a.1 * b.1)), (wrap64 (a.1 * b.2)), (wrap64 (a.2 * b.1))]))) := fun w2 o h => HB.out _ (h.2.2.2.2.out.alloc o)
      have HDR : Hid (∀ (w2 : World) (j : Nat), (w2.cell? ⟨A, 0, none⟩ = some (.int .i64 a.1) ∧ w2.cell? ⟨A, 1, none⟩ = some (.int .i64 a.2) ∧ w2.cell? ⟨A + 1, 0, none⟩ = some (.int .i64 b.1) ∧ w2.cell? ⟨A + 1, 1, none⟩ = some (.int .i64 b.2) ∧ Hid (St W5 w2 (.slice p1 3 c1) [(wrap64 (a.1 * b.1)), (wrap64 (a.1 * b.2)), (wrap64 (a.2 * b.1))])) → ((w2.drewN j).cell? ⟨A, 0, none⟩ = some (.int .i64 a.1) ∧ (w2.drewN j).cell? ⟨A, 1, none⟩ = some (.int .i64 a.2) ∧ (w2.drewN j).cell? ⟨A + 1, 0, none⟩ = some (.int .i64 b.1) ∧ (w2.drewN j).cell? ⟨A + 1, 1, none⟩ = some (.int .i64 b.2) ∧ Hid (St W5 (w2.drewN j) (.slice p1 3 c1) [(wrap64 (a.1 * b.1)), (wrap64 (a.1 * b.2)), (wrap64 (a.2 * b.1))]))) := fun w2 j h => HB.out _ (h.2.2.2.2.out.drewN j)
      have hS1 : Hid (St W5 wr (.slice p1 3 c1) [(wrap64 (a.1 * b.1)), (wrap64 (a.1 * b.2)), (wrap64 (a.2 * b.1))]) := hS.out
      clear hS
      go_upto_region 16 with fail
      go_cut [19, 20] from 80 to 113 (fun v19 v20 wy => v19 = .int .i64 (wrap64 (a.2 * b.2)) ∧ v20 = .bool (fit (a.2 * b.2)) ∧ Hid (St W5 wy (.slice p1 3 c1) [(wrap64 (a.1 * b.1)), (wrap64 (a.1 * b.2)), (wrap64 (a.2 * b.1))]))
      case first =>
        refine wp_region_held_drew (S := fun w' => w'.cell? ⟨A, 0, none⟩ = some (.int .i64 a.1) ∧ w'.cell? ⟨A, 1, none⟩ = some (.int .i64 a.2) ∧ w'.cell? ⟨A + 1, 0, none⟩ = some (.int .i64 b.1) ∧ w'.cell? ⟨A + 1, 1, none⟩ = some (.int .i64 b.2) ∧ Hid (St W5 w' (.slice p1 3 c1) [(wrap64 (a.1 * b.1)), (wrap64 (a.1 * b.2)), (wrap64 (a.2 * b.1))])) (by kernel_rfl) (HDR.out wr 1 (HB.out _ hS1.out)) (fun hH0 => ?_)
        obtain ⟨w0, hw0⟩ : ∃ w0, w0 = wr.drew := ⟨_, rfl⟩
        rw [← hw0] at hH0 ⊢
        clear hw0
        refine wpAnyH_take (i := 0) (oi := ({ dst := some 85, op := Op.fieldAddr 25 (Operand.tmp 4) 0, type := 0, pos := "ref.go:206", after := #[], guard := none } : Oper)) (v := ?_) rfl (by kernel_rfl) (by kernel_rfl) (by kernel_rfl) (fun _ _ _ h => h) (Or.inl ⟨by rfl, ?_⟩) (by assumption) ?_
        rotate_left
        · (intro wz hSw; (try dsimp only at hSw); go_simp; try with_reducible rfl)
        simp only [Act.put, List.setIfInBounds_toArray, List.set_cons_zero, List.set_cons_succ]
        refine wpAnyH_take (i := 1) (oi := ({ dst := some 86, op := Op.load 2 (Operand.tmp 85), type := 2, pos := "ref.go:206", after := #[{ on := 0, ground := Ground.data }], guard := none } : Oper)) (v := ?_) rfl (by kernel_rfl) (by kernel_rfl) (by kernel_rfl) (fun _ _ _ h => h) (Or.inl ⟨by rfl, ?_⟩) (by assumption) ?_
        rotate_left
        · (intro wz hSw; (try dsimp only at hSw); go_simp; try with_reducible rfl)
        simp only [Act.put, List.setIfInBounds_toArray, List.set_cons_zero, List.set_cons_succ]
        refine wpAnyH_take (i := 2) (oi := ({ dst := some 87, op := Op.fieldAddr 25 (Operand.tmp 4) 1, type := 0, pos := "ref.go:206", after := #[], guard := none } : Oper)) (v := ?_) rfl (by kernel_rfl) (by kernel_rfl) (by kernel_rfl) (fun _ _ _ h => h) (Or.inl ⟨by rfl, ?_⟩) (by assumption) ?_
        rotate_left
        · (intro wz hSw; (try dsimp only at hSw); go_simp; try with_reducible rfl)
        simp only [Act.put, List.setIfInBounds_toArray, List.set_cons_zero, List.set_cons_succ]
        refine wpAnyH_take (i := 3) (oi := ({ dst := some 88, op := Op.load 2 (Operand.tmp 87), type := 2, pos := "ref.go:206", after := #[{ on := 2, ground := Ground.data }], guard := none } : Oper)) (v := ?_) rfl (by kernel_rfl) (by kernel_rfl) (by kernel_rfl) (fun _ _ _ h => h) (Or.inl ⟨by rfl, ?_⟩) (by assumption) ?_
        rotate_left
        · (intro wz hSw; (try dsimp only at hSw); go_simp; try with_reducible rfl)
        simp only [Act.put, List.setIfInBounds_toArray, List.set_cons_zero, List.set_cons_succ]
        refine wpAnyH_take (i := 5) (oi := ({ dst := some 90, op := Op.move (Operand.tmp 18), type := 3, pos := "ref.go:206", after := #[], guard := none } : Oper)) (v := ?_) rfl (by kernel_rfl) (by kernel_rfl) (by kernel_rfl) (fun _ _ _ h => h) (Or.inl ⟨by rfl, ?_⟩) (by assumption) ?_
        rotate_left
        · (intro wz hSw; (try dsimp only at hSw); go_simp; try with_reducible rfl)
        simp only [Act.put, List.setIfInBounds_toArray, List.set_cons_zero, List.set_cons_succ]
        refine wpAnyH_take (i := 6) (oi := ({ dst := some 91, op := Op.binOp BinOp.quo 3 (Operand.tmp 90) (Operand.const (Value.int IntKind.i64 2)) 3, type := 3, pos := "ref.go:206", after := #[{ on := 5, ground := Ground.data }], guard := none } : Oper)) (v := ?_) rfl (by kernel_rfl) (by kernel_rfl) (by kernel_rfl) (fun _ _ _ h => h) (Or.inl ⟨by rfl, ?_⟩) (by assumption) ?_
        rotate_left
        · (intro wz hSw; (try dsimp only at hSw); go_simp; try with_reducible rfl)
        simp only [Act.put, List.setIfInBounds_toArray, List.set_cons_zero, List.set_cons_succ]
        refine wpAnyH_take (i := 9) (oi := ({ dst := some 94, op := Op.fieldAddr 25 (Operand.tmp 5) 0, type := 0, pos := "ref.go:206", after := #[], guard := none } : Oper)) (v := ?_) rfl (by kernel_rfl) (by kernel_rfl) (by kernel_rfl) (fun _ _ _ h => h) (Or.inl ⟨by rfl, ?_⟩) (by assumption) ?_
        rotate_left
        · (intro wz hSw; (try dsimp only at hSw); go_simp; try with_reducible rfl)
        simp only [Act.put, List.setIfInBounds_toArray, List.set_cons_zero, List.set_cons_succ]
        refine wpAnyH_take (i := 10) (oi := ({ dst := some 95, op := Op.load 2 (Operand.tmp 94), type := 2, pos := "ref.go:206", after := #[{ on := 9, ground := Ground.data }], guard := none } : Oper)) (v := ?_) rfl (by kernel_rfl) (by kernel_rfl) (by kernel_rfl) (fun _ _ _ h => h) (Or.inl ⟨by rfl, ?_⟩) (by assumption) ?_
        rotate_left
        · (intro wz hSw; (try dsimp only at hSw); go_simp; try with_reducible rfl)
        simp only [Act.put, List.setIfInBounds_toArray, List.set_cons_zero, List.set_cons_succ]
        refine wpAnyH_take (i := 11) (oi := ({ dst := some 96, op := Op.fieldAddr 25 (Operand.tmp 5) 1, type := 0, pos := "ref.go:206", after := #[], guard := none } : Oper)) (v := ?_) rfl (by kernel_rfl) (by kernel_rfl) (by kernel_rfl) (fun _ _ _ h => h) (Or.inl ⟨by rfl, ?_⟩) (by assumption) ?_
        rotate_left
        · (intro wz hSw; (try dsimp only at hSw); go_simp; try with_reducible rfl)
        simp only [Act.put, List.setIfInBounds_toArray, List.set_cons_zero, List.set_cons_succ]
        refine wpAnyH_take (i := 12) (oi := ({ dst := some 97, op := Op.load 2 (Operand.tmp 96), type := 2, pos := "ref.go:206", after := #[{ on := 11, ground := Ground.data }], guard := none } : Oper)) (v := ?_) rfl (by kernel_rfl) (by kernel_rfl) (by kernel_rfl) (fun _ _ _ h => h) (Or.inl ⟨by rfl, ?_⟩) (by assumption) ?_
        rotate_left
        · (intro wz hSw; (try dsimp only at hSw); go_simp; try with_reducible rfl)
        simp only [Act.put, List.setIfInBounds_toArray, List.set_cons_zero, List.set_cons_succ]
        refine wpAnyH_take (i := 14) (oi := ({ dst := some 99, op := Op.move (Operand.tmp 18), type := 3, pos := "ref.go:206", after := #[], guard := none } : Oper)) (v := ?_) rfl (by kernel_rfl) (by kernel_rfl) (by kernel_rfl) (fun _ _ _ h => h) (Or.inl ⟨by rfl, ?_⟩) (by assumption) ?_
        rotate_left
        · (intro wz hSw; (try dsimp only at hSw); go_simp; try with_reducible rfl)
        simp only [Act.put, List.setIfInBounds_toArray, List.set_cons_zero, List.set_cons_succ]
        refine wpAnyH_take (i := 15) (oi := ({ dst := some 100, op := Op.binOp BinOp.rem 3 (Operand.tmp 99) (Operand.const (Value.int IntKind.i64 2)) 3, type := 3, pos := "ref.go:206", after := #[{ on := 14, ground := Ground.data }], guard := none } : Oper)) (v := ?_) rfl (by kernel_rfl) (by kernel_rfl) (by kernel_rfl) (fun _ _ _ h => h) (Or.inl ⟨by rfl, ?_⟩) (by assumption) ?_
        rotate_left
        · (intro wz hSw; (try dsimp only at hSw); go_simp; try with_reducible rfl)
        simp only [Act.put, List.setIfInBounds_toArray, List.set_cons_zero, List.set_cons_succ]
        refine wpAnyH_ready (rs := [4, 13]) (by kernel_rfl) (by simp) ?_
        refine AllReadyH.cons (o := ({ dst := some 89, op := Op.buildSlice 82 2 #[(0, Operand.tmp 86), (1, Operand.tmp 88)], type := 82, pos := "ref.go:206", after := #[{ on := 1, ground := Ground.data }, { on := 3, ground := Ground.data }], guard := none } : Oper)) rfl (fun K hK => ?_) (AllReadyH.cons (o := ({ dst := some 98, op := Op.buildSlice 82 2 #[(0, Operand.tmp 95), (1, Operand.tmp 97)], type := 82, pos := "ref.go:206", after := #[{ on := 10, ground := Ground.data }, { on := 12, ground := Ground.data }], guard := none } : Oper)) rfl (fun K hK => ?_) AllReadyH.nil)
        · go_simp
          have P1 := Bx.new w0 a.1 a.2 2
          refine hK.out _ _ (HAL.out _ _ hH0) (fun hH1 => ?_)
          clear hK K
          obtain ⟨w1, hw1⟩ : ∃ w1, w1 = (w0.alloc (.cells #[.int .i64 a.1, .int .i64 a.2] 2)) := ⟨_, rfl⟩
          rw [← hw1] at hH1 P1 ⊢
          clear hw1
          generalize w0.heap.size = kP at *
          refine wpAnyH_take (i := 7) (oi := ({ dst := some 92, op := Op.indexAddr 82 (Operand.tmp 89) (Operand.tmp 91), type := 0, pos := "ref.go:206", after := #[{ on := 4, ground := Ground.data }, { on := 6, ground := Ground.data }], guard := none } : Oper)) (v := ?_) rfl (by kernel_rfl) (by kernel_rfl) (by kernel_rfl) (fun _ _ _ h => h) (Or.inl ⟨by rfl, ?_⟩) (by assumption) ?_
          rotate_left
          · (intro wz hSw; (try dsimp only at hSw); go_simp; try with_reducible rfl)
          simp only [Act.put, List.setIfInBounds_toArray, List.set_cons_zero, List.set_cons_succ]
          refine wpAnyH_ready (rs := [8, 13]) (by kernel_rfl) (by simp) ?_
          refine AllReadyH.cons (o := ({ dst := some 93, op := Op.load 2 (Operand.tmp 92), type := 2, pos := "ref.go:206", after := #[{ on := 7, ground := Ground.data }], guard := none } : Oper)) rfl (fun K hK => ?_) (AllReadyH.cons (o := ({ dst := some 98, op := Op.buildSlice 82 2 #[(0, Operand.tmp 95), (1, Operand.tmp 97)], type := 82, pos := "ref.go:206", after := #[{ on := 10, ground := Ground.data }, { on := 12, ground := Ground.data }], guard := none } : Oper)) rfl (fun K hK => ?_) AllReadyH.nil)
          · have c0 := P1.1
            have c1 := P1.2
            go_simp
            refine hK.out _ _ hH1 (fun _ => ?_)
            clear hK K c0 c1
            refine wpAnyH_ready (rs := [13]) (by kernel_rfl) (by simp) ?_
            refine AllReadyH.cons (o := ({ dst := some 98, op := Op.buildSlice 82 2 #[(0, Operand.tmp 95), (1, Operand.tmp 97)], type := 82, pos := "ref.go:206", after := #[{ on := 10, ground := Ground.data }, { on := 12, ground := Ground.data }], guard := none } : Oper)) rfl (fun K hK => ?_) AllReadyH.nil
            · go_simp
              have Q2 := Bx.new w1 b.1 b.2 2
              have P2 := P1.keep ((Below.refl _ _).alloc (Nat.le_refl _) (.cells #[.int .i64 b.1, .int .i64 b.2] 2))
              refine hK.out _ _ (HAL.out _ _ hH1) (fun hH2 => ?_)
              clear hK K
              obtain ⟨w2, hw2⟩ : ∃ w2, w2 = (w1.alloc (.cells #[.int .i64 b.1, .int .i64 b.2] 2)) := ⟨_, rfl⟩
              rw [← hw2] at hH2 P2 Q2 ⊢
              clear hw2
              generalize w1.heap.size = kQ at *
              refine wpAnyH_take (i := 16) (oi := ({ dst := some 101, op := Op.indexAddr 82 (Operand.tmp 98) (Operand.tmp 100), type := 0, pos := "ref.go:206", after := #[{ on := 13, ground := Ground.data }, { on := 15, ground := Ground.data }], guard := none } : Oper)) (v := ?_) rfl (by kernel_rfl) (by kernel_rfl) (by kernel_rfl) (fun _ _ _ h => h) (Or.inl ⟨by rfl, ?_⟩) (by assumption) ?_
              rotate_left
              · (intro wz hSw; (try dsimp only at hSw); go_simp; try with_reducible rfl)
              simp only [Act.put, List.setIfInBounds_toArray, List.set_cons_zero, List.set_cons_succ]
              refine wpAnyH_ready (rs := [17]) (by kernel_rfl) (by simp) ?_
              refine AllReadyH.cons (o := ({ dst := some 102, op := Op.load 2 (Operand.tmp 101), type := 2, pos := "ref.go:206", after := #[{ on := 16, ground := Ground.data }], guard := none } : Oper)) rfl (fun K hK => ?_) AllReadyH.nil
              · have c0 := Q2.1
                have c1 := Q2.2
                go_simp
                refine hK.out _ _ hH2 (fun _ => ?_)
                clear hK K c0 c1
                refine wpAnyH_ready (rs := [18]) (by kernel_rfl) (by simp) ?_
                refine AllReadyH.cons (o := ({ dst := some 103, op := Op.call { callee := Callee.value (Operand.func 91), args := #[Operand.tmp 93, Operand.tmp 102], argTypes := #[2, 2] }, type := 96, pos := "ref.go:206", after := #[{ on := 8, ground := Ground.data }, { on := 17, ground := Ground.data }], guard := none } : Oper)) rfl (fun K hK => ?_) AllReadyH.nil
                · go_simp
                  go_at_call 91
                  refine (times_any _ _ _ (by assumption) (by assumption)).mono ?_
                  rintro e x ⟨rfl, j, rfl⟩
                  refine hK.out _ _ (HDR.out _ j hH2) (fun hH3 => ?_)
                  clear hK K
                  refine wpAnyH_take (i := 19) (oi := ({ dst := some 84, op := Op.move (Operand.tmp 103), type := 96, pos := "ref.go:206", after := #[{ on := 18, ground := Ground.data }], guard := none } : Oper)) (v := ?_) rfl (by kernel_rfl) (by kernel_rfl) (by kernel_rfl) (fun _ _ _ h => h) (Or.inl ⟨by rfl, ?_⟩) (by assumption) ?_
                  rotate_left
                  · (intro wz hSw; (try dsimp only at hSw); go_simp; try with_reducible rfl)
                  simp only [Act.put, List.setIfInBounds_toArray, List.set_cons_zero, List.set_cons_succ]
                  refine wpAnyH_take (i := 20) (oi := ({ dst := some 104, op := Op.extract (Operand.tmp 84) 0, type := 2, pos := "ref.go:206", after := #[{ on := 19, ground := Ground.data }], guard := none } : Oper)) (v := ?_) rfl (by kernel_rfl) (by kernel_rfl) (by kernel_rfl) (fun _ _ _ h => h) (Or.inl ⟨by rfl, ?_⟩) (by assumption) ?_
                  rotate_left
                  · (intro wz hSw; (try dsimp only at hSw); go_simp; try with_reducible rfl)
                  simp only [Act.put, List.setIfInBounds_toArray, List.set_cons_zero, List.set_cons_succ]
                  refine wpAnyH_take (i := 21) (oi := ({ dst := some 105, op := Op.extract (Operand.tmp 84) 1, type := 4, pos := "ref.go:206", after := #[{ on := 19, ground := Ground.data }, { on := 22, ground := Ground.gcOnly Departure.lateStores }], guard := none } : Oper)) (v := ?_) rfl (by kernel_rfl) (by kernel_rfl) (by kernel_rfl) (fun _ _ _ h => h) (Or.inl ⟨by rfl, ?_⟩) (by assumption) ?_
                  rotate_left
                  · (intro wz hSw; (try dsimp only at hSw); go_simp; try with_reducible rfl)
                  simp only [Act.put, List.setIfInBounds_toArray, List.set_cons_zero, List.set_cons_succ]
                  refine wpAnyH_take (i := 22) (oi := ({ dst := some 19, op := Op.assign (Operand.tmp 104), type := 2, pos := "ref.go:206", after := #[{ on := 20, ground := Ground.data }, { on := 18, ground := Ground.chain }, { on := 0, ground := Ground.phase }, { on := 1, ground := Ground.phase }, { on := 2, ground := Ground.phase }, { on := 3, ground := Ground.phase }, { on := 4, ground := Ground.phase }, { on := 5, ground := Ground.phase }, { on := 6, ground := Ground.phase }, { on := 7, ground := Ground.phase }, { on := 8, ground := Ground.phase }, { on := 9, ground := Ground.phase }, { on := 10, ground := Ground.phase }, { on := 11, ground := Ground.phase }, { on := 12, ground := Ground.phase }, { on := 13, ground := Ground.phase }, { on := 14, ground := Ground.phase }, { on := 15, ground := Ground.phase }, { on := 16, ground := Ground.phase }, { on := 17, ground := Ground.phase }, { on := 18, ground := Ground.phase }, { on := 19, ground := Ground.phase }, { on := 20, ground := Ground.phase }, { on := 21, ground := Ground.textOnly Departure.lateStores }], guard := none } : Oper)) (v := ?_) rfl (by kernel_rfl) (by kernel_rfl) (by kernel_rfl) (fun _ _ _ h => h) (Or.inl ⟨by rfl, ?_⟩) (by assumption) ?_
                  rotate_left
                  · (intro wz hSw; (try dsimp only at hSw); go_simp; try with_reducible rfl)
                  simp only [Act.put, List.setIfInBounds_toArray, List.set_cons_zero, List.set_cons_succ]
                  refine wpAnyH_take (i := 23) (oi := ({ dst := some 20, op := Op.assign (Operand.tmp 105), type := 4, pos := "ref.go:206", after := #[{ on := 21, ground := Ground.data }, { on := 22, ground := Ground.chain }, { on := 0, ground := Ground.phase }, { on := 1, ground := Ground.phase }, { on := 2, ground := Ground.phase }, { on := 3, ground := Ground.phase }, { on := 4, ground := Ground.phase }, { on := 5, ground := Ground.phase }, { on := 6, ground := Ground.phase }, { on := 7, ground := Ground.phase }, { on := 8, ground := Ground.phase }, { on := 9, ground := Ground.phase }, { on := 10, ground := Ground.phase }, { on := 11, ground := Ground.phase }, { on := 12, ground := Ground.phase }, { on := 13, ground := Ground.phase }, { on := 14, ground := Ground.phase }, { on := 15, ground := Ground.phase }, { on := 16, ground := Ground.phase }, { on := 17, ground := Ground.phase }, { on := 18, ground := Ground.phase }, { on := 19, ground := Ground.phase }, { on := 20, ground := Ground.phase }, { on := 21, ground := Ground.phase }, { on := 22, ground := Ground.phase }], guard := none } : Oper)) (v := ?_) rfl (by kernel_rfl) (by kernel_rfl) (by kernel_rfl) (fun _ _ _ h => h) (Or.inl ⟨by rfl, ?_⟩) (by assumption) ?_
                  rotate_left
                  · (intro wz hSw; (try dsimp only at hSw); go_simp; try with_reducible rfl)
                  simp only [Act.put, List.setIfInBounds_toArray, List.set_cons_zero, List.set_cons_succ]
                  refine wpAnyH_done (by kernel_rfl) ?_ _
                  go_wp2_with fail
                  go_meet
                  case rel => exact ⟨rfl, rfl, hH3.2.2.2.2.out⟩
          · go_simp
            have Q2 := Bx.new w1 b.1 b.2 2
            have P2 := P1.keep ((Below.refl _ _).alloc (Nat.le_refl _) (.cells #[.int .i64 b.1, .int .i64 b.2] 2))
            refine hK.out _ _ (HAL.out _ _ hH1) (fun hH2 => ?_)
            clear hK K
            obtain ⟨w2, hw2⟩ : ∃ w2, w2 = (w1.alloc (.cells #[.int .i64 b.1, .int .i64 b.2] 2)) := ⟨_, rfl⟩
            rw [← hw2] at hH2 P2 Q2 ⊢
            clear hw2
            generalize w1.heap.size = kQ at *
            refine wpAnyH_take (i := 16) (oi := ({ dst := some 101, op := Op.indexAddr 82 (Operand.tmp 98) (Operand.tmp 100), type := 0, pos := "ref.go:206", after := #[{ on := 13, ground := Ground.data }, { on := 15, ground := Ground.data }], guard := none } : Oper)) (v := ?_) rfl (by kernel_rfl) (by kernel_rfl) (by kernel_rfl) (fun _ _ _ h => h) (Or.inl ⟨by rfl, ?_⟩) (by assumption) ?_
            rotate_left
            · (intro wz hSw; (try dsimp only at hSw); go_simp; try with_reducible rfl)
            simp only [Act.put, List.setIfInBounds_toArray, List.set_cons_zero, List.set_cons_succ]
            refine wpAnyH_ready (rs := [8, 17]) (by kernel_rfl) (by simp) ?_
            refine AllReadyH.cons (o := ({ dst := some 93, op := Op.load 2 (Operand.tmp 92), type := 2, pos := "ref.go:206", after := #[{ on := 7, ground := Ground.data }], guard := none } : Oper)) rfl (fun K hK => ?_) (AllReadyH.cons (o := ({ dst := some 102, op := Op.load 2 (Operand.tmp 101), type := 2, pos := "ref.go:206", after := #[{ on := 16, ground := Ground.data }], guard := none } : Oper)) rfl (fun K hK => ?_) AllReadyH.nil)
            · have c0 := P2.1
              have c1 := P2.2
              go_simp
              refine hK.out _ _ hH2 (fun _ => ?_)
              clear hK K c0 c1
              refine wpAnyH_ready (rs := [17]) (by kernel_rfl) (by simp) ?_
              refine AllReadyH.cons (o := ({ dst := some 102, op := Op.load 2 (Operand.tmp 101), type := 2, pos := "ref.go:206", after := #[{ on := 16, ground := Ground.data }], guard := none } : Oper)) rfl (fun K hK => ?_) AllReadyH.nil
              · have c0 := Q2.1
                have c1 := Q2.2
                go_simp
                refine hK.out _ _ hH2 (fun _ => ?_)
                clear hK K c0 c1
                refine wpAnyH_ready (rs := [18]) (by kernel_rfl) (by simp) ?_
                refine AllReadyH.cons (o := ({ dst := some 103, op := Op.call { callee := Callee.value (Operand.func 91), args := #[Operand.tmp 93, Operand.tmp 102], argTypes := #[2, 2] }, type := 96, pos := "ref.go:206", after := #[{ on := 8, ground := Ground.data }, { on := 17, ground := Ground.data }], guard := none } : Oper)) rfl (fun K hK => ?_) AllReadyH.nil
                · go_simp
                  go_at_call 91
                  refine (times_any _ _ _ (by assumption) (by assumption)).mono ?_
                  rintro e x ⟨rfl, j, rfl⟩
                  refine hK.out _ _ (HDR.out _ j hH2) (fun hH3 => ?_)
                  clear hK K
                  refine wpAnyH_take (i := 19) (oi := ({ dst := some 84, op := Op.move (Operand.tmp 103), type := 96, pos := "ref.go:206", after := #[{ on := 18, ground := Ground.data }], guard := none } : Oper)) (v := ?_) rfl (by kernel_rfl) (by kernel_rfl) (by kernel_rfl) (fun _ _ _ h => h) (Or.inl ⟨by rfl, ?_⟩) (by assumption) ?_
                  rotate_left
                  · (intro wz hSw; (try dsimp only at hSw); go_simp; try with_reducible rfl)
                  simp only [Act.put, List.setIfInBounds_toArray, List.set_cons_zero, List.set_cons_succ]
                  refine wpAnyH_take (i := 20) (oi := ({ dst := some 104, op := Op.extract (Operand.tmp 84) 0, type := 2, pos := "ref.go:206", after := #[{ on := 19, ground := Ground.data }], guard := none } : Oper)) (v := ?_) rfl (by kernel_rfl) (by kernel_rfl) (by kernel_rfl) (fun _ _ _ h => h) (Or.inl ⟨by rfl, ?_⟩) (by assumption) ?_
                  rotate_left
                  · (intro wz hSw; (try dsimp only at hSw); go_simp; try with_reducible rfl)
                  simp only [Act.put, List.setIfInBounds_toArray, List.set_cons_zero, List.set_cons_succ]
                  refine wpAnyH_take (i := 21) (oi := ({ dst := some 105, op := Op.extract (Operand.tmp 84) 1, type := 4, pos := "ref.go:206", after := #[{ on := 19, ground := Ground.data }, { on := 22, ground := Ground.gcOnly Departure.lateStores }], guard := none } : Oper)) (v := ?_) rfl (by kernel_rfl) (by kernel_rfl) (by kernel_rfl) (fun _ _ _ h => h) (Or.inl ⟨by rfl, ?_⟩) (by assumption) ?_
                  rotate_left
                  · (intro wz hSw; (try dsimp only at hSw); go_simp; try with_reducible rfl)
                  simp only [Act.put, List.setIfInBounds_toArray, List.set_cons_zero, List.set_cons_succ]
                  refine wpAnyH_take (i := 22) (oi := ({ dst := some 19, op := Op.assign (Operand.tmp 104), type := 2, pos := "ref.go:206", after := #[{ on := 20, ground := Ground.data }, { on := 18, ground := Ground.chain }, { on := 0, ground := Ground.phase }, { on := 1, ground := Ground.phase }, { on := 2, ground := Ground.phase }, { on := 3, ground := Ground.phase }, { on := 4, ground := Ground.phase }, { on := 5, ground := Ground.phase }, { on := 6, ground := Ground.phase }, { on := 7, ground := Ground.phase }, { on := 8, ground := Ground.phase }, { on := 9, ground := Ground.phase }, { on := 10, ground := Ground.phase }, { on := 11, ground := Ground.phase }, { on := 12, ground := Ground.phase }, { on := 13, ground := Ground.phase }, { on := 14, ground := Ground.phase }, { on := 15, ground := Ground.phase }, { on := 16, ground := Ground.phase }, { on := 17, ground := Ground.phase }, { on := 18, ground := Ground.phase }, { on := 19, ground := Ground.phase }, { on := 20, ground := Ground.phase }, { on := 21, ground := Ground.textOnly Departure.lateStores }], guard := none } : Oper)) (v := ?_) rfl (by kernel_rfl) (by kernel_rfl) (by kernel_rfl) (fun _ _ _ h => h) (Or.inl ⟨by rfl, ?_⟩) (by assumption) ?_
                  rotate_left
                  · (intro wz hSw; (try dsimp only at hSw); go_simp; try with_reducible rfl)
                  simp only [Act.put, List.setIfInBounds_toArray, List.set_cons_zero, List.set_cons_succ]
                  refine wpAnyH_take (i := 23) (oi := ({ dst := some 20, op := Op.assign (Operand.tmp 105), type := 4, pos := "ref.go:206", after := #[{ on := 21, ground := Ground.data }, { on := 22, ground := Ground.chain }, { on := 0, ground := Ground.phase }, { on := 1, ground := Ground.phase }, { on := 2, ground := Ground.phase }, { on := 3, ground := Ground.phase }, { on := 4, ground := Ground.phase }, { on := 5, ground := Ground.phase }, { on := 6, ground := Ground.phase }, { on := 7, ground := Ground.phase }, { on := 8, ground := Ground.phase }, { on := 9, ground := Ground.phase }, { on := 10, ground := Ground.phase }, { on := 11, ground := Ground.phase }, { on := 12, ground := Ground.phase }, { on := 13, ground := Ground.phase }, { on := 14, ground := Ground.phase }, { on := 15, ground := Ground.phase }, { on := 16, ground := Ground.phase }, { on := 17, ground := Ground.phase }, { on := 18, ground := Ground.phase }, { on := 19, ground := Ground.phase }, { on := 20, ground := Ground.phase }, { on := 21, ground := Ground.phase }, { on := 22, ground := Ground.phase }], guard := none } : Oper)) (v := ?_) rfl (by kernel_rfl) (by kernel_rfl) (by kernel_rfl) (fun _ _ _ h => h) (Or.inl ⟨by rfl, ?_⟩) (by assumption) ?_
                  rotate_left
                  · (intro wz hSw; (try dsimp only at hSw); go_simp; try with_reducible rfl)
                  simp only [Act.put, List.setIfInBounds_toArray, List.set_cons_zero, List.set_cons_succ]
                  refine wpAnyH_done (by kernel_rfl) ?_ _
                  go_wp2_with fail
                  go_meet
                  case rel => exact ⟨rfl, rfl, hH3.2.2.2.2.out⟩
            · have c0 := Q2.1
              have c1 := Q2.2
              go_simp
              refine hK.out _ _ hH2 (fun _ => ?_)
              clear hK K c0 c1
              refine wpAnyH_ready (rs := [8]) (by kernel_rfl) (by simp) ?_
              refine AllReadyH.cons (o := ({ dst := some 93, op := Op.load 2 (Operand.tmp 92), type := 2, pos := "ref.go:206", after := #[{ on := 7, ground := Ground.data }], guard := none } : Oper)) rfl (fun K hK => ?_) AllReadyH.nil
              · have c0 := P2.1
                have c1 := P2.2
                go_simp
                refine hK.out _ _ hH2 (fun _ => ?_)
                clear hK K c0 c1
                refine wpAnyH_ready (rs := [18]) (by kernel_rfl) (by simp) ?_
                refine AllReadyH.cons (o := ({ dst := some 103, op := Op.call { callee := Callee.value (Operand.func 91), args := #[Operand.tmp 93, Operand.tmp 102], argTypes := #[2, 2] }, type := 96, pos := "ref.go:206", after := #[{ on := 8, ground := Ground.data }, { on := 17, ground := Ground.data }], guard := none } : Oper)) rfl (fun K hK => ?_) AllReadyH.nil
                · go_simp
                  go_at_call 91
                  refine (times_any _ _ _ (by assumption) (by assumption)).mono ?_
                  rintro e x ⟨rfl, j, rfl⟩
                  refine hK.out _ _ (HDR.out _ j hH2) (fun hH3 => ?_)
                  clear hK K
                  refine wpAnyH_take (i := 19) (oi := ({ dst := some 84, op := Op.move (Operand.tmp 103), type := 96, pos := "ref.go:206", after := #[{ on := 18, ground := Ground.data }], guard := none } : Oper)) (v := ?_) rfl (by kernel_rfl) (by kernel_rfl) (by kernel_rfl) (fun _ _ _ h => h) (Or.inl ⟨by rfl, ?_⟩) (by assumption) ?_
                  rotate_left
                  · (intro wz hSw; (try dsimp only at hSw); go_simp; try with_reducible rfl)
                  simp only [Act.put, List.setIfInBounds_toArray, List.set_cons_zero, List.set_cons_succ]
                  refine wpAnyH_take (i := 20) (oi := ({ dst := some 104, op := Op.extract (Operand.tmp 84) 0, type := 2, pos := "ref.go:206", after := #[{ on := 19, ground := Ground.data }], guard := none } : Oper)) (v := ?_) rfl (by kernel_rfl) (by kernel_rfl) (by kernel_rfl) (fun _ _ _ h => h) (Or.inl ⟨by rfl, ?_⟩) (by assumption) ?_
                  rotate_left
                  · (intro wz hSw; (try dsimp only at hSw); go_simp; try with_reducible rfl)
                  simp only [Act.put, List.setIfInBounds_toArray, List.set_cons_zero, List.set_cons_succ]
                  refine wpAnyH_take (i := 21) (oi := ({ dst := some 105, op := Op.extract (Operand.tmp 84) 1, type := 4, pos := "ref.go:206", after := #[{ on := 19, ground := Ground.data }, { on := 22, ground := Ground.gcOnly Departure.lateStores }], guard := none } : Oper)) (v := ?_) rfl (by kernel_rfl) (by kernel_rfl) (by kernel_rfl) (fun _ _ _ h => h) (Or.inl ⟨by rfl, ?_⟩) (by assumption) ?_
                  rotate_left
                  · (intro wz hSw; (try dsimp only at hSw); go_simp; try with_reducible rfl)
                  simp only [Act.put, List.setIfInBounds_toArray, List.set_cons_zero, List.set_cons_succ]
                  refine wpAnyH_take (i := 22) (oi := ({ dst := some 19, op := Op.assign (Operand.tmp 104), type := 2, pos := "ref.go:206", after := #[{ on := 20, ground := Ground.data }, { on := 18, ground := Ground.chain }, { on := 0, ground := Ground.phase }, { on := 1, ground := Ground.phase }, { on := 2, ground := Ground.phase }, { on := 3, ground := Ground.phase }, { on := 4, ground := Ground.phase }, { on := 5, ground := Ground.phase }, { on := 6, ground := Ground.phase }, { on := 7, ground := Ground.phase }, { on := 8, ground := Ground.phase }, { on := 9, ground := Ground.phase }, { on := 10, ground := Ground.phase }, { on := 11, ground := Ground.phase }, { on := 12, ground := Ground.phase }, { on := 13, ground := Ground.phase }, { on := 14, ground := Ground.phase }, { on := 15, ground := Ground.phase }, { on := 16, ground := Ground.phase }, { on := 17, ground := Ground.phase }, { on := 18, ground := Ground.phase }, { on := 19, ground := Ground.phase }, { on := 20, ground := Ground.phase }, { on := 21, ground := Ground.textOnly Departure.lateStores }], guard := none } : Oper)) (v := ?_) rfl (by kernel_rfl) (by kernel_rfl) (by kernel_rfl) (fun _ _ _ h => h) (Or.inl ⟨by rfl, ?_⟩) (by assumption) ?_
                  rotate_left
                  · (intro wz hSw; (try dsimp only at hSw); go_simp; try with_reducible rfl)
                  simp only [Act.put, List.setIfInBounds_toArray, List.set_cons_zero, List.set_cons_succ]
                  refine wpAnyH_take (i := 23) (oi := ({ dst := some 20, op := Op.assign (Operand.tmp 105), type := 4, pos := "ref.go:206", after := #[{ on := 21, ground := Ground.data }, { on := 22, ground := Ground.chain }, { on := 0, ground := Ground.phase }, { on := 1, ground := Ground.phase }, { on := 2, ground := Ground.phase }, { on := 3, ground := Ground.phase }, { on := 4, ground := Ground.phase }, { on := 5, ground := Ground.phase }, { on := 6, ground := Ground.phase }, { on := 7, ground := Ground.phase }, { on := 8, ground := Ground.phase }, { on := 9, ground := Ground.phase }, { on := 10, ground := Ground.phase }, { on := 11, ground := Ground.phase }, { on := 12, ground := Ground.phase }, { on := 13, ground := Ground.phase }, { on := 14, ground := Ground.phase }, { on := 15, ground := Ground.phase }, { on := 16, ground := Ground.phase }, { on := 17, ground := Ground.phase }, { on := 18, ground := Ground.phase }, { on := 19, ground := Ground.phase }, { on := 20, ground := Ground.phase }, { on := 21, ground := Ground.phase }, { on := 22, ground := Ground.phase }], guard := none } : Oper)) (v := ?_) rfl (by kernel_rfl) (by kernel_rfl) (by kernel_rfl) (fun _ _ _ h => h) (Or.inl ⟨by rfl, ?_⟩) (by assumption) ?_
                  rotate_left
                  · (intro wz hSw; (try dsimp only at hSw); go_simp; try with_reducible rfl)
                  simp only [Act.put, List.setIfInBounds_toArray, List.set_cons_zero, List.set_cons_succ]
                  refine wpAnyH_done (by kernel_rfl) ?_ _
                  go_wp2_with fail
                  go_meet
                  case rel => exact ⟨rfl, rfl, hH3.2.2.2.2.out⟩
        · go_simp
          have Q1 := Bx.new w0 b.1 b.2 2
          refine hK.out _ _ (HAL.out _ _ hH0) (fun hH1 => ?_)
          clear hK K
          obtain ⟨w1, hw1⟩ : ∃ w1, w1 = (w0.alloc (.cells #[.int .i64 b.1, .int .i64 b.2] 2)) := ⟨_, rfl⟩
          rw [← hw1] at hH1 Q1 ⊢
          clear hw1
          generalize w0.heap.size = kQ at *
          refine wpAnyH_take (i := 16) (oi := ({ dst := some 101, op := Op.indexAddr 82 (Operand.tmp 98) (Operand.tmp 100), type := 0, pos := "ref.go:206", after := #[{ on := 13, ground := Ground.data }, { on := 15, ground := Ground.data }], guard := none } : Oper)) (v := ?_) rfl (by kernel_rfl) (by kernel_rfl) (by kernel_rfl) (fun _ _ _ h => h) (Or.inl ⟨by rfl, ?_⟩) (by assumption) ?_
          rotate_left
          · (intro wz hSw; (try dsimp only at hSw); go_simp; try with_reducible rfl)
          simp only [Act.put, List.setIfInBounds_toArray, List.set_cons_zero, List.set_cons_succ]
          refine wpAnyH_ready (rs := [4, 17]) (by kernel_rfl) (by simp) ?_
          refine AllReadyH.cons (o := ({ dst := some 89, op := Op.buildSlice 82 2 #[(0, Operand.tmp 86), (1, Operand.tmp 88)], type := 82, pos := "ref.go:206", after := #[{ on := 1, ground := Ground.data }, { on := 3, ground := Ground.data }], guard := none } : Oper)) rfl (fun K hK => ?_) (AllReadyH.cons (o := ({ dst := some 102, op := Op.load 2 (Operand.tmp 101), type := 2, pos := "ref.go:206", after := #[{ on := 16, ground := Ground.data }], guard := none } : Oper)) rfl (fun K hK => ?_) AllReadyH.nil)
          · go_simp
            have P2 := Bx.new w1 a.1 a.2 2
            have Q2 := Q1.keep ((Below.refl _ _).alloc (Nat.le_refl _) (.cells #[.int .i64 a.1, .int .i64 a.2] 2))
            refine hK.out _ _ (HAL.out _ _ hH1) (fun hH2 => ?_)
            clear hK K
            obtain ⟨w2, hw2⟩ : ∃ w2, w2 = (w1.alloc (.cells #[.int .i64 a.1, .int .i64 a.2] 2)) := ⟨_, rfl⟩
            rw [← hw2] at hH2 Q2 P2 ⊢
            clear hw2
            generalize w1.heap.size = kP at *
            refine wpAnyH_take (i := 7) (oi := ({ dst := some 92, op := Op.indexAddr 82 (Operand.tmp 89) (Operand.tmp 91), type := 0, pos := "ref.go:206", after := #[{ on := 4, ground := Ground.data }, { on := 6, ground := Ground.data }], guard := none } : Oper)) (v := ?_) rfl (by kernel_rfl) (by kernel_rfl) (by kernel_rfl) (fun _ _ _ h => h) (Or.inl ⟨by rfl, ?_⟩) (by assumption) ?_
            rotate_left
            · (intro wz hSw; (try dsimp only at hSw); go_simp; try with_reducible rfl)
            simp only [Act.put, List.setIfInBounds_toArray, List.set_cons_zero, List.set_cons_succ]
            refine wpAnyH_ready (rs := [8, 17]) (by kernel_rfl) (by simp) ?_
            refine AllReadyH.cons (o := ({ dst := some 93, op := Op.load 2 (Operand.tmp 92), type := 2, pos := "ref.go:206", after := #[{ on := 7, ground := Ground.data }], guard := none } : Oper)) rfl (fun K hK => ?_) (AllReadyH.cons (o := ({ dst := some 102, op := Op.load 2 (Operand.tmp 101), type := 2, pos := "ref.go:206", after := #[{ on := 16, ground := Ground.data }], guard := none } : Oper)) rfl (fun K hK => ?_) AllReadyH.nil)
            · have c0 := P2.1
              have c1 := P2.2
              go_simp
              refine hK.out _ _ hH2 (fun _ => ?_)
              clear hK K c0 c1
              refine wpAnyH_ready (rs := [17]) (by kernel_rfl) (by simp) ?_
              refine AllReadyH.cons (o := ({ dst := some 102, op := Op.load 2 (Operand.tmp 101), type := 2, pos := "ref.go:206", after := #[{ on := 16, ground := Ground.data }], guard := none } : Oper)) rfl (fun K hK => ?_) AllReadyH.nil
              · have c0 := Q2.1
                have c1 := Q2.2
                go_simp
                refine hK.out _ _ hH2 (fun _ => ?_)
                clear hK K c0 c1
                refine wpAnyH_ready (rs := [18]) (by kernel_rfl) (by simp) ?_
                refine AllReadyH.cons (o := ({ dst := some 103, op := Op.call { callee := Callee.value (Operand.func 91), args := #[Operand.tmp 93, Operand.tmp 102], argTypes := #[2, 2] }, type := 96, pos := "ref.go:206", after := #[{ on := 8, ground := Ground.data }, { on := 17, ground := Ground.data }], guard := none } : Oper)) rfl (fun K hK => ?_) AllReadyH.nil
                · go_simp
                  go_at_call 91
                  refine (times_any _ _ _ (by assumption) (by assumption)).mono ?_
                  rintro e x ⟨rfl, j, rfl⟩
                  refine hK.out _ _ (HDR.out _ j hH2) (fun hH3 => ?_)
                  clear hK K
                  refine wpAnyH_take (i := 19) (oi := ({ dst := some 84, op := Op.move (Operand.tmp 103), type := 96, pos := "ref.go:206", after := #[{ on := 18, ground := Ground.data }], guard := none } : Oper)) (v := ?_) rfl (by kernel_rfl) (by kernel_rfl) (by kernel_rfl) (fun _ _ _ h => h) (Or.inl ⟨by rfl, ?_⟩) (by assumption) ?_
                  rotate_left
                  · (intro wz hSw; (try dsimp only at hSw); go_simp; try with_reducible rfl)
                  simp only [Act.put, List.setIfInBounds_toArray, List.set_cons_zero, List.set_cons_succ]
                  refine wpAnyH_take (i := 20) (oi := ({ dst := some 104, op := Op.extract (Operand.tmp 84) 0, type := 2, pos := "ref.go:206", after := #[{ on := 19, ground := Ground.data }], guard := none } : Oper)) (v := ?_) rfl (by kernel_rfl) (by kernel_rfl) (by kernel_rfl) (fun _ _ _ h => h) (Or.inl ⟨by rfl, ?_⟩) (by assumption) ?_
                  rotate_left
                  · (intro wz hSw; (try dsimp only at hSw); go_simp; try with_reducible rfl)
                  simp only [Act.put, List.setIfInBounds_toArray, List.set_cons_zero, List.set_cons_succ]
                  refine wpAnyH_take (i := 21) (oi := ({ dst := some 105, op := Op.extract (Operand.tmp 84) 1, type := 4, pos := "ref.go:206", after := #[{ on := 19, ground := Ground.data }, { on := 22, ground := Ground.gcOnly Departure.lateStores }], guard := none } : Oper)) (v := ?_) rfl (by kernel_rfl) (by kernel_rfl) (by kernel_rfl) (fun _ _ _ h => h) (Or.inl ⟨by rfl, ?_⟩) (by assumption) ?_
                  rotate_left
                  · (intro wz hSw; (try dsimp only at hSw); go_simp; try with_reducible rfl)
                  simp only [Act.put, List.setIfInBounds_toArray, List.set_cons_zero, List.set_cons_succ]
                  refine wpAnyH_take (i := 22) (oi := ({ dst := some 19, op := Op.assign (Operand.tmp 104), type := 2, pos := "ref.go:206", after := #[{ on := 20, ground := Ground.data }, { on := 18, ground := Ground.chain }, { on := 0, ground := Ground.phase }, { on := 1, ground := Ground.phase }, { on := 2, ground := Ground.phase }, { on := 3, ground := Ground.phase }, { on := 4, ground := Ground.phase }, { on := 5, ground := Ground.phase }, { on := 6, ground := Ground.phase }, { on := 7, ground := Ground.phase }, { on := 8, ground := Ground.phase }, { on := 9, ground := Ground.phase }, { on := 10, ground := Ground.phase }, { on := 11, ground := Ground.phase }, { on := 12, ground := Ground.phase }, { on := 13, ground := Ground.phase }, { on := 14, ground := Ground.phase }, { on := 15, ground := Ground.phase }, { on := 16, ground := Ground.phase }, { on := 17, ground := Ground.phase }, { on := 18, ground := Ground.phase }, { on := 19, ground := Ground.phase }, { on := 20, ground := Ground.phase }, { on := 21, ground := Ground.textOnly Departure.lateStores }], guard := none } : Oper)) (v := ?_) rfl (by kernel_rfl) (by kernel_rfl) (by kernel_rfl) (fun _ _ _ h => h) (Or.inl ⟨by rfl, ?_⟩) (by assumption) ?_
                  rotate_left
                  · (intro wz hSw; (try dsimp only at hSw); go_simp; try with_reducible rfl)
                  simp only [Act.put, List.setIfInBounds_toArray, List.set_cons_zero, List.set_cons_succ]
                  refine wpAnyH_take (i := 23) (oi := ({ dst := some 20, op := Op.assign (Operand.tmp 105), type := 4, pos := "ref.go:206", after := #[{ on := 21, ground := Ground.data }, { on := 22, ground := Ground.chain }, { on := 0, ground := Ground.phase }, { on := 1, ground := Ground.phase }, { on := 2, ground := Ground.phase }, { on := 3, ground := Ground.phase }, { on := 4, ground := Ground.phase }, { on := 5, ground := Ground.phase }, { on := 6, ground := Ground.phase }, { on := 7, ground := Ground.phase }, { on := 8, ground := Ground.phase }, { on := 9, ground := Ground.phase }, { on := 10, ground := Ground.phase }, { on := 11, ground := Ground.phase }, { on := 12, ground := Ground.phase }, { on := 13, ground := Ground.phase }, { on := 14, ground := Ground.phase }, { on := 15, ground := Ground.phase }, { on := 16, ground := Ground.phase }, { on := 17, ground := Ground.phase }, { on := 18, ground := Ground.phase }, { on := 19, ground := Ground.phase }, { on := 20, ground := Ground.phase }, { on := 21, ground := Ground.phase }, { on := 22, ground := Ground.phase }], guard := none } : Oper)) (v := ?_) rfl (by kernel_rfl) (by kernel_rfl) (by kernel_rfl) (fun _ _ _ h => h) (Or.inl ⟨by rfl, ?_⟩) (by assumption) ?_
                  rotate_left
                  · (intro wz hSw; (try dsimp only at hSw); go_simp; try with_reducible rfl)
                  simp only [Act.put, List.setIfInBounds_toArray, List.set_cons_zero, List.set_cons_succ]
                  refine wpAnyH_done (by kernel_rfl) ?_ _
                  go_wp2_with fail
                  go_meet
                  case rel => exact ⟨rfl, rfl, hH3.2.2.2.2.out⟩
            · have c0 := Q2.1
              have c1 := Q2.2
              go_simp
              refine hK.out _ _ hH2 (fun _ => ?_)
              clear hK K c0 c1
              refine wpAnyH_ready (rs := [8]) (by kernel_rfl) (by simp) ?_
              refine AllReadyH.cons (o := ({ dst := some 93, op := Op.load 2 (Operand.tmp 92), type := 2, pos := "ref.go:206", after := #[{ on := 7, ground := Ground.data }], guard := none } : Oper)) rfl (fun K hK => ?_) AllReadyH.nil
              · have c0 := P2.1
                have c1 := P2.2
                go_simp
                refine hK.out _ _ hH2 (fun _ => ?_)
                clear hK K c0 c1
                refine wpAnyH_ready (rs := [18]) (by kernel_rfl) (by simp) ?_
                refine AllReadyH.cons (o := ({ dst := some 103, op := Op.call { callee := Callee.value (Operand.func 91), args := #[Operand.tmp 93, Operand.tmp 102], argTypes := #[2, 2] }, type := 96, pos := "ref.go:206", after := #[{ on := 8, ground := Ground.data }, { on := 17, ground := Ground.data }], guard := none } : Oper)) rfl (fun K hK => ?_) AllReadyH.nil
                · go_simp
                  go_at_call 91
                  refine (times_any _ _ _ (by assumption) (by assumption)).mono ?_
                  rintro e x ⟨rfl, j, rfl⟩
                  refine hK.out _ _ (HDR.out _ j hH2) (fun hH3 => ?_)
                  clear hK K
                  refine wpAnyH_take (i := 19) (oi := ({ dst := some 84, op := Op.move (Operand.tmp 103), type := 96, pos := "ref.go:206", after := #[{ on := 18, ground := Ground.data }], guard := none } : Oper)) (v := ?_) rfl (by kernel_rfl) (by kernel_rfl) (by kernel_rfl) (fun _ _ _ h => h) (Or.inl ⟨by rfl, ?_⟩) (by assumption) ?_
                  rotate_left
                  · (intro wz hSw; (try dsimp only at hSw); go_simp; try with_reducible rfl)
                  simp only [Act.put, List.setIfInBounds_toArray, List.set_cons_zero, List.set_cons_succ]
                  refine wpAnyH_take (i := 20) (oi := ({ dst := some 104, op := Op.extract (Operand.tmp 84) 0, type := 2, pos := "ref.go:206", after := #[{ on := 19, ground := Ground.data }], guard := none } : Oper)) (v := ?_) rfl (by kernel_rfl) (by kernel_rfl) (by kernel_rfl) (fun _ _ _ h => h) (Or.inl ⟨by rfl, ?_⟩) (by assumption) ?_
                  rotate_left
                  · (intro wz hSw; (try dsimp only at hSw); go_simp; try with_reducible rfl)
                  simp only [Act.put, List.setIfInBounds_toArray, List.set_cons_zero, List.set_cons_succ]
                  refine wpAnyH_take (i := 21) (oi := ({ dst := some 105, op := Op.extract (Operand.tmp 84) 1, type := 4, pos := "ref.go:206", after := #[{ on := 19, ground := Ground.data }, { on := 22, ground := Ground.gcOnly Departure.lateStores }], guard := none } : Oper)) (v := ?_) rfl (by kernel_rfl) (by kernel_rfl) (by kernel_rfl) (fun _ _ _ h => h) (Or.inl ⟨by rfl, ?_⟩) (by assumption) ?_
                  rotate_left
                  · (intro wz hSw; (try dsimp only at hSw); go_simp; try with_reducible rfl)
                  simp only [Act.put, List.setIfInBounds_toArray, List.set_cons_zero, List.set_cons_succ]
                  refine wpAnyH_take (i := 22) (oi := ({ dst := some 19, op := Op.assign (Operand.tmp 104), type := 2, pos := "ref.go:206", after := #[{ on := 20, ground := Ground.data }, { on := 18, ground := Ground.chain }, { on := 0, ground := Ground.phase }, { on := 1, ground := Ground.phase }, { on := 2, ground := Ground.phase }, { on := 3, ground := Ground.phase }, { on := 4, ground := Ground.phase }, { on := 5, ground := Ground.phase }, { on := 6, ground := Ground.phase }, { on := 7, ground := Ground.phase }, { on := 8, ground := Ground.phase }, { on := 9, ground := Ground.phase }, { on := 10, ground := Ground.phase }, { on := 11, ground := Ground.phase }, { on := 12, ground := Ground.phase }, { on := 13, ground := Ground.phase }, { on := 14, ground := Ground.phase }, { on := 15, ground := Ground.phase }, { on := 16, ground := Ground.phase }, { on := 17, ground := Ground.phase }, { on := 18, ground := Ground.phase }, { on := 19, ground := Ground.phase }, { on := 20, ground := Ground.phase }, { on := 21, ground := Ground.textOnly Departure.lateStores }], guard := none } : Oper)) (v := ?_) rfl (by kernel_rfl) (by kernel_rfl) (by kernel_rfl) (fun _ _ _ h => h) (Or.inl ⟨by rfl, ?_⟩) (by assumption) ?_
                  rotate_left
                  · (intro wz hSw; (try dsimp only at hSw); go_simp; try with_reducible rfl)
                  simp only [Act.put, List.setIfInBounds_toArray, List.set_cons_zero, List.set_cons_succ]
                  refine wpAnyH_take (i := 23) (oi := ({ dst := some 20, op := Op.assign (Operand.tmp 105), type := 4, pos := "ref.go:206", after := #[{ on := 21, ground := Ground.data }, { on := 22, ground := Ground.chain }, { on := 0, ground := Ground.phase }, { on := 1, ground := Ground.phase }, { on := 2, ground := Ground.phase }, { on := 3, ground := Ground.phase }, { on := 4, ground := Ground.phase }, { on := 5, ground := Ground.phase }, { on := 6, ground := Ground.phase }, { on := 7, ground := Ground.phase }, { on := 8, ground := Ground.phase }, { on := 9, ground := Ground.phase }, { on := 10, ground := Ground.phase }, { on := 11, ground := Ground.phase }, { on := 12, ground := Ground.phase }, { on := 13, ground := Ground.phase }, { on := 14, ground := Ground.phase }, { on := 15, ground := Ground.phase }, { on := 16, ground := Ground.phase }, { on := 17, ground := Ground.phase }, { on := 18, ground := Ground.phase }, { on := 19, ground := Ground.phase }, { on := 20, ground := Ground.phase }, { on := 21, ground := Ground.phase }, { on := 22, ground := Ground.phase }], guard := none } : Oper)) (v := ?_) rfl (by kernel_rfl) (by kernel_rfl) (by kernel_rfl) (fun _ _ _ h => h) (Or.inl ⟨by rfl, ?_⟩) (by assumption) ?_
                  rotate_left
                  · (intro wz hSw; (try dsimp only at hSw); go_simp; try with_reducible rfl)
                  simp only [Act.put, List.setIfInBounds_toArray, List.set_cons_zero, List.set_cons_succ]
                  refine wpAnyH_done (by kernel_rfl) ?_ _
                  go_wp2_with fail
                  go_meet
                  case rel => exact ⟨rfl, rfl, hH3.2.2.2.2.out⟩
          · have c0 := Q1.1
            have c1 := Q1.2
            go_simp
            refine hK.out _ _ hH1 (fun _ => ?_)
            clear hK K c0 c1
            refine wpAnyH_ready (rs := [4]) (by kernel_rfl) (by simp) ?_
            refine AllReadyH.cons (o := ({ dst := some 89, op := Op.buildSlice 82 2 #[(0, Operand.tmp 86), (1, Operand.tmp 88)], type := 82, pos := "ref.go:206", after := #[{ on := 1, ground := Ground.data }, { on := 3, ground := Ground.data }], guard := none } : Oper)) rfl (fun K hK => ?_) AllReadyH.nil
            · go_simp
              have P2 := Bx.new w1 a.1 a.2 2
              have Q2 := Q1.keep ((Below.refl _ _).alloc (Nat.le_refl _) (.cells #[.int .i64 a.1, .int .i64 a.2] 2))
              refine hK.out _ _ (HAL.out _ _ hH1) (fun hH2 => ?_)
              clear hK K
              obtain ⟨w2, hw2⟩ : ∃ w2, w2 = (w1.alloc (.cells #[.int .i64 a.1, .int .i64 a.2] 2)) := ⟨_, rfl⟩
              rw [← hw2] at hH2 Q2 P2 ⊢
              clear hw2
              generalize w1.heap.size = kP at *
              refine wpAnyH_take (i := 7) (oi := ({ dst := some 92, op := Op.indexAddr 82 (Operand.tmp 89) (Operand.tmp 91), type := 0, pos := "ref.go:206", after := #[{ on := 4, ground := Ground.data }, { on := 6, ground := Ground.data }], guard := none } : Oper)) (v := ?_) rfl (by kernel_rfl) (by kernel_rfl) (by kernel_rfl) (fun _ _ _ h => h) (Or.inl ⟨by rfl, ?_⟩) (by assumption) ?_
              rotate_left
              · (intro wz hSw; (try dsimp only at hSw); go_simp; try with_reducible rfl)
              simp only [Act.put, List.setIfInBounds_toArray, List.set_cons_zero, List.set_cons_succ]
              refine wpAnyH_ready (rs := [8]) (by kernel_rfl) (by simp) ?_
              refine AllReadyH.cons (o := ({ dst := some 93, op := Op.load 2 (Operand.tmp 92), type := 2, pos := "ref.go:206", after := #[{ on := 7, ground := Ground.data }], guard := none } : Oper)) rfl (fun K hK => ?_) AllReadyH.nil
              · have c0 := P2.1
                have c1 := P2.2
                go_simp
                refine hK.out _ _ hH2 (fun _ => ?_)
                clear hK K c0 c1
                refine wpAnyH_ready (rs := [18]) (by kernel_rfl) (by simp) ?_
                refine AllReadyH.cons (o := ({ dst := some 103, op := Op.call { callee := Callee.value (Operand.func 91), args := #[Operand.tmp 93, Operand.tmp 102], argTypes := #[2, 2] }, type := 96, pos := "ref.go:206", after := #[{ on := 8, ground := Ground.data }, { on := 17, ground := Ground.data }], guard := none } : Oper)) rfl (fun K hK => ?_) AllReadyH.nil
                · go_simp
                  go_at_call 91
                  refine (times_any _ _ _ (by assumption) (by assumption)).mono ?_
                  rintro e x ⟨rfl, j, rfl⟩
                  refine hK.out _ _ (HDR.out _ j hH2) (fun hH3 => ?_)
                  clear hK K
                  refine wpAnyH_take (i := 19) (oi := ({ dst := some 84, op := Op.move (Operand.tmp 103), type := 96, pos := "ref.go:206", after := #[{ on := 18, ground := Ground.data }], guard := none } : Oper)) (v := ?_) rfl (by kernel_rfl) (by kernel_rfl) (by kernel_rfl) (fun _ _ _ h => h) (Or.inl ⟨by rfl, ?_⟩) (by assumption) ?_
                  rotate_left
                  · (intro wz hSw; (try dsimp only at hSw); go_simp; try with_reducible rfl)
                  simp only [Act.put, List.setIfInBounds_toArray, List.set_cons_zero, List.set_cons_succ]
                  refine wpAnyH_take (i := 20) (oi := ({ dst := some 104, op := Op.extract (Operand.tmp 84) 0, type := 2, pos := "ref.go:206", after := #[{ on := 19, ground := Ground.data }], guard := none } : Oper)) (v := ?_) rfl (by kernel_rfl) (by kernel_rfl) (by kernel_rfl) (fun _ _ _ h => h) (Or.inl ⟨by rfl, ?_⟩) (by assumption) ?_
                  rotate_left
                  · (intro wz hSw; (try dsimp only at hSw); go_simp; try with_reducible rfl)
                  simp only [Act.put, List.setIfInBounds_toArray, List.set_cons_zero, List.set_cons_succ]
                  refine wpAnyH_take (i := 21) (oi := ({ dst := some 105, op := Op.extract (Operand.tmp 84) 1, type := 4, pos := "ref.go:206", after := #[{ on := 19, ground := Ground.data }, { on := 22, ground := Ground.gcOnly Departure.lateStores }], guard := none } : Oper)) (v := ?_) rfl (by kernel_rfl) (by kernel_rfl) (by kernel_rfl) (fun _ _ _ h => h) (Or.inl ⟨by rfl, ?_⟩) (by assumption) ?_
                  rotate_left
                  · (intro wz hSw; (try dsimp only at hSw); go_simp; try with_reducible rfl)
                  simp only [Act.put, List.setIfInBounds_toArray, List.set_cons_zero, List.set_cons_succ]
                  refine wpAnyH_take (i := 22) (oi := ({ dst := some 19, op := Op.assign (Operand.tmp 104), type := 2, pos := "ref.go:206", after := #[{ on := 20, ground := Ground.data }, { on := 18, ground := Ground.chain }, { on := 0, ground := Ground.phase }, { on := 1, ground := Ground.phase }, { on := 2, ground := Ground.phase }, { on := 3, ground := Ground.phase }, { on := 4, ground := Ground.phase }, { on := 5, ground := Ground.phase }, { on := 6, ground := Ground.phase }, { on := 7, ground := Ground.phase }, { on := 8, ground := Ground.phase }, { on := 9, ground := Ground.phase }, { on := 10, ground := Ground.phase }, { on := 11, ground := Ground.phase }, { on := 12, ground := Ground.phase }, { on := 13, ground := Ground.phase }, { on := 14, ground := Ground.phase }, { on := 15, ground := Ground.phase }, { on := 16, ground := Ground.phase }, { on := 17, ground := Ground.phase }, { on := 18, ground := Ground.phase }, { on := 19, ground := Ground.phase }, { on := 20, ground := Ground.phase }, { on := 21, ground := Ground.textOnly Departure.lateStores }], guard := none } : Oper)) (v := ?_) rfl (by kernel_rfl) (by kernel_rfl) (by kernel_rfl) (fun _ _ _ h => h) (Or.inl ⟨by rfl, ?_⟩) (by assumption) ?_
                  rotate_left
                  · (intro wz hSw; (try dsimp only at hSw); go_simp; try with_reducible rfl)
                  simp only [Act.put, List.setIfInBounds_toArray, List.set_cons_zero, List.set_cons_succ]
                  refine wpAnyH_take (i := 23) (oi := ({ dst := some 20, op := Op.assign (Operand.tmp 105), type := 4, pos := "ref.go:206", after := #[{ on := 21, ground := Ground.data }, { on := 22, ground := Ground.chain }, { on := 0, ground := Ground.phase }, { on := 1, ground := Ground.phase }, { on := 2, ground := Ground.phase }, { on := 3, ground := Ground.phase }, { on := 4, ground := Ground.phase }, { on := 5, ground := Ground.phase }, { on := 6, ground := Ground.phase }, { on := 7, ground := Ground.phase }, { on := 8, ground := Ground.phase }, { on := 9, ground := Ground.phase }, { on := 10, ground := Ground.phase }, { on := 11, ground := Ground.phase }, { on := 12, ground := Ground.phase }, { on := 13, ground := Ground.phase }, { on := 14, ground := Ground.phase }, { on := 15, ground := Ground.phase }, { on := 16, ground := Ground.phase }, { on := 17, ground := Ground.phase }, { on := 18, ground := Ground.phase }, { on := 19, ground := Ground.phase }, { on := 20, ground := Ground.phase }, { on := 21, ground := Ground.phase }, { on := 22, ground := Ground.phase }], guard := none } : Oper)) (v := ?_) rfl (by kernel_rfl) (by kernel_rfl) (by kernel_rfl) (fun _ _ _ h => h) (Or.inl ⟨by rfl, ?_⟩) (by assumption) ?_
                  rotate_left
                  · (intro wz hSw; (try dsimp only at hSw); go_simp; try with_reducible rfl)
                  simp only [Act.put, List.setIfInBounds_toArray, List.set_cons_zero, List.set_cons_succ]
                  refine wpAnyH_done (by kernel_rfl) ?_ _
                  go_wp2_with fail
                  go_meet
                  case rel => exact ⟨rfl, rfl, hH3.2.2.2.2.out⟩
      case rest =>
        obtain ⟨rfl, rfl, hS2⟩ := hcut
        clear HB HAL HDR hS1
        cases hB : (((true && fit (a.1 * b.1)) && fit (a.1 * b.2)) && fit (a.2 * b.1))
        · go_wp2_with (at_builtin; refine wpList_app1 W5 _ rfl (.tmp 106) (.tmp 108) rfl _ [(wrap64 (a.1 * b.1)), (wrap64 (a.1 * b.2)), (wrap64 (a.2 * b.1))] (wrap64 (a.2 * b.2)) hS2.out rfl rfl (Nat.le_of_ble_eq_true rfl) ?_; intro p2 c2 w2 hS3; replace hS3 := (hide hS3))
          go_round
          case rel => exact Or.inr (Or.inr (Or.inr (Or.inr (⟨rfl, by rw [hB]; simp, hS3.out⟩))))
          case measure => simp [intOf]
        · go_wp2_with (at_builtin; refine wpList_app1 W5 _ rfl (.tmp 106) (.tmp 108) rfl _ [(wrap64 (a.1 * b.1)), (wrap64 (a.1 * b.2)), (wrap64 (a.2 * b.1))] (wrap64 (a.2 * b.2)) hS2.out rfl rfl (Nat.le_of_ble_eq_true rfl) ?_; intro p2 c2 w2 hS3; replace hS3 := (hide hS3))
          go_round
          case rel => exact Or.inr (Or.inr (Or.inr (Or.inr (⟨rfl, by rw [hB]; simp, hS3.out⟩))))
          case measure => simp [intOf]
    · obtain ⟨p1, c1, rfl⟩ := (hS.out).slice
      obtain ⟨g2, rfl, HR⟩ := St.row (n := (wrap64 (a.1 * b.1))) (ps := [(wrap64 (a.1 * b.2)), (wrap64 (a.2 * b.1)), (wrap64 (a.2 * b.2))]) hS.out
      have HY := hide (HX5.out.keep hS.out.bel)
      have HR := hide HR
      clear hS HX5
      generalize ((((true && fit (a.1 * b.1)) && fit (a.1 * b.2)) && fit (a.2 * b.1)) && fit (a.2 * b.2)) = ok at *
      go_wp2_with (go_at_call 89; refine (hullB g2 _ (wrap64 (a.1 * b.1)) [(wrap64 (a.1 * b.2)), (wrap64 (a.2 * b.1)), (wrap64 (a.2 * b.2))] _ _ HR.out (Nat.le_of_ble_eq_true rfl)).mono ?_; rintro e wQ ⟨rfl, hbQ⟩; have KQ := HY.out.keep hbQ; have r0 := KQ.xr.1.1; have r1 := KQ.xr.1.2; have r2 := KQ.xr.2.1; have r3 := KQ.xr.2.2; have hWQ := KQ.bel; clear KQ hbQ)
      clear HR HY
      refine bodyPost_ret (by simp [results, Tryz.results40, go_sem, *]; try rfl) rfl ⟨?_, by rw [← HAA.out]; exact (by repeat (first | assumption | (refine Below.drew ?_) | (refine below_drewN ?_ _) | (refine Below.setCell ?_ (by first | omega | (simp; omega)) _) | (refine Below.alloc ?_ (by first | omega | (simp; omega)) _)))⟩
      rw [HQ.out]
end Go.Proofs.YthiacdbjlkpfgaaGreatDoor
