import Derived.Test.YthiacdbjlkpfgaaGreatDoorG05
import Derived.Test.YthiacdbjlkpfgaaGreatDoorG11
import Derived.Lib.ItoaWalk
import Derived.Deep.CutBlock
import Derived.LoopTactic
import Derived.Deep.DeepCutAuto
import Derived.Test.YthiacdbjlkpfgaaGreatDoorG09
namespace Go.Proofs.YthiacdbjlkpfgaaGreatDoor
open Go.RowKit
theorem RowN.keep {w w' : World} {g : Nat} {ps : List Int} (h : RowN w g ps) (hb : Below w.heap.size w w') : RowN w' g ps := fun j n hj => (hb.cell (p := ⟨g, j, none⟩) (World.block_lt_of_cell? w _ (h j n hj))).trans (h j n hj)
set_option maxRecDepth 100000 in
theorem hull_no (v : Value) (w : World) : Calls Tryz.prog 89 #[v, .bool false] w fun e w' => e = .returned (.tuple #[.agg #[.int .i64 (-9223372036854775808), .int .i64 9223372036854775807], .bool true]) ∧ Below w.heap.size w w' := by
  go_enter Tryz.func89, Tryz.ntmps89
  go_wp2_with (go_at_call 56; refine (nanyr_any _).mono ?_; rintro e w1 ⟨rfl, o1, rfl⟩)
  refine bodyPost_ret (by simp [results, Tryz.results89, go_sem]; try rfl) rfl ⟨?_, (by repeat (first | exact Below.refl _ _ | (refine Below.drew ?_) | (refine below_drewN ?_ _) | (refine Below.setCell ?_ (by first | omega | (simp; done) | (simp; omega)) _) | (refine Below.alloc ?_ (by first | omega | (simp; done) | (simp; omega)) _) | (refine Below.trans ?_ (Below.mono (by assumption) (by first | omega | (simp; done) | (simp; omega))))))⟩
  rfl
set_option maxRecDepth 100000 in
set_option maxHeartbeats 16000000 in
theorem hull_yes (g c : Nat) (n : Int) (ps : List Int) (w : World) (h : RowN w g (n :: ps)) (hl : ps.length ≤ 100) : Calls Tryz.prog 89 #[.slice (some ⟨g, 0, none⟩) (ps.length + 1) c, .bool true] w fun e w' => e = .returned (.tuple #[.agg #[.int .i64 (lst n ps), .int .i64 (grt n ps)], .bool true]) ∧ Below w.heap.size w w' := by
  have HH : Hid (RowN w g (n :: ps)) := h
  clear h
  have l1 : (ps.length : Int) + 1 ≤ 101 := by omega
  have l2 : (0 : Int) ≤ ps.length := by omega
  have x0 : RowN (w.alloc (.cells #[.int .i64 0, .int .i64 0] 25)) g (n :: ps) := HH.out.keep ((Below.refl _ _).alloc (Nat.le_refl _) _)
  have x1 := Bz.new w 0 0 25
  have x2 : Below w.heap.size w (w.alloc (.cells #[.int .i64 0, .int .i64 0] 25)) := (by repeat (first | exact Below.refl _ _ | (refine Below.drew ?_) | (refine below_drewN ?_ _) | (refine Below.setCell ?_ (by first | omega | (simp; done) | (simp; omega)) _) | (refine Below.alloc ?_ (by first | omega | (simp; done) | (simp; omega)) _) | (refine Below.trans ?_ (Below.mono (by assumption) (by first | omega | (simp; done) | (simp; omega))))))
  go_enter Tryz.func89, Tryz.ntmps89
  go_upto_region 3 with fail
  go_name_world W hW
  rw [hW] at x0 x1 x2
  clear hW
  obtain ⟨N, hN⟩ : ∃ N, N = w.heap.size := ⟨_, rfl⟩
  rw [← hN] at x1 x2 ⊢
  have HN : Hid (N = w.heap.size) := hN
  clear hN
  have R : Hid (RowN W g (n :: ps) ∧ Bz W N 0 0 ∧ Below N w W) := ⟨x0, x1, x2⟩
  clear x0 x1 x2
  have HCL : Hid (∀ a b : World, (a.cell? ⟨g, 0, none⟩ = some (.int .i64 n) ∧ N < a.heap.size ∧ Hid (RowN a g (n :: ps) ∧ Bz a N 0 0 ∧ Below N w a)) → Below a.heap.size a b → (b.cell? ⟨g, 0, none⟩ = some (.int .i64 n) ∧ N < b.heap.size ∧ Hid (RowN b g (n :: ps) ∧ Bz b N 0 0 ∧ Below N w b))) := fun a b h hb => by
    have t := h.2.2.out
    exact ⟨(t.1.keep hb) 0 n rfl, Nat.lt_of_lt_of_le h.2.1 hb.size, t.1.keep hb, t.2.1.keep hb, t.2.2.trans (hb.mono (Nat.le_of_lt h.2.1))⟩
  have HST : Hid (∀ (a : World) (q : Nat) (v u : Value), (N < q ∧ g ≠ q) → (a.cell? ⟨g, 0, none⟩ = some (.int .i64 n) ∧ N < a.heap.size ∧ Hid (RowN a g (n :: ps) ∧ Bz a N 0 0 ∧ Below N w a)) → (((a.setCell ⟨q, 0, none⟩ v).setCell ⟨q, 1, none⟩ u).cell? ⟨g, 0, none⟩ = some (.int .i64 n) ∧ N < ((a.setCell ⟨q, 0, none⟩ v).setCell ⟨q, 1, none⟩ u).heap.size ∧ Hid (RowN ((a.setCell ⟨q, 0, none⟩ v).setCell ⟨q, 1, none⟩ u) g (n :: ps) ∧ Bz ((a.setCell ⟨q, 0, none⟩ v).setCell ⟨q, 1, none⟩ u) N 0 0 ∧ Below N w ((a.setCell ⟨q, 0, none⟩ v).setCell ⟨q, 1, none⟩ u)))) := fun a q v u hq h => by
    have t := h.2.2.out
    have ne : ∀ k j : Nat, (⟨q, j, none⟩ : Addr) ≠ ⟨g, k, none⟩ := fun k j e => hq.2 (congrArg Addr.block e).symm
    have r : RowN ((a.setCell ⟨q, 0, none⟩ v).setCell ⟨q, 1, none⟩ u) g (n :: ps) := fun j m hj => (World.cell?_setCell_other _ _ _ _ (ne j 1)).trans ((World.cell?_setCell_other _ _ _ _ (ne j 0)).trans (t.1 j m hj))
    exact ⟨r 0 n rfl, by simpa using h.2.1, r, t.2.1.set' (by omega) v u, (t.2.2.setCell (p := ⟨q, 0, none⟩) (show N ≤ q by omega) v).setCell (p := ⟨q, 1, none⟩) (show N ≤ q by omega) u⟩
  have hS0 : W.cell? ⟨g, 0, none⟩ = some (.int .i64 n) ∧ N < W.heap.size ∧ Hid (RowN W g (n :: ps) ∧ Bz W N 0 0 ∧ Below N w W) := ⟨R.out.1 0 n rfl, R.out.2.1.1.lt, R⟩
  go_cut [6] (fun v6 wy => ∃ t, v6 = .pointer (some ⟨t, 0, none⟩) ∧ Hid (RowN wy g (n :: ps) ∧ Bz wy N 0 0 ∧ Below N w wy ∧ Bz wy t n n ∧ N < t ∧ g ≠ t))
  case first =>
    refine wp_region_held_drew (S := fun w' => w'.cell? ⟨g, 0, none⟩ = some (.int .i64 n) ∧ N < w'.heap.size ∧ Hid (RowN w' g (n :: ps) ∧ Bz w' N 0 0 ∧ Below N w w')) (by kernel_rfl) (HCL.out _ _ hS0 ((Below.refl _ _).drew)) (fun hH0 => ?_)
    obtain ⟨w0, hw0⟩ : ∃ w0, w0 = W.drew := ⟨_, rfl⟩
    rw [← hw0] at hH0 ⊢
    clear hw0
    refine wpAnyH_take (i := 0) (oi := ({ dst := some 11, op := Op.move (Operand.tmp 0), type := 82, pos := "ref.go:91", after := #[], guard := none } : Oper)) (v := ?_) rfl (by kernel_rfl) (by kernel_rfl) (by kernel_rfl) (fun _ _ _ h => h) (Or.inl ⟨by rfl, ?_⟩) (by assumption) ?_
    rotate_left
    · (intro wz hSw; (try dsimp only at hSw); go_simp; try with_reducible rfl)
    simp only [Act.put, List.setIfInBounds_toArray, List.set_cons_zero, List.set_cons_succ]
    refine wpAnyH_take (i := 1) (oi := ({ dst := some 12, op := Op.indexAddr 82 (Operand.tmp 11) (Operand.const (Value.int IntKind.i64 0)), type := 0, pos := "ref.go:91", after := #[{ on := 0, ground := Ground.data }], guard := none } : Oper)) (v := ?_) rfl (by kernel_rfl) (by kernel_rfl) (by kernel_rfl) (fun _ _ _ h => h) (Or.inl ⟨by rfl, ?_⟩) (by assumption) ?_
    rotate_left
    · (intro wz hSw; (try dsimp only at hSw); go_simp; try with_reducible rfl)
    simp only [Act.put, List.setIfInBounds_toArray, List.set_cons_zero, List.set_cons_succ]
    refine wpAnyH_take (i := 2) (oi := ({ dst := some 13, op := Op.load 2 (Operand.tmp 12), type := 2, pos := "ref.go:91", after := #[{ on := 1, ground := Ground.data }], guard := none } : Oper)) (v := ?_) rfl (by kernel_rfl) (by kernel_rfl) (by kernel_rfl) (fun _ _ _ h => h) (Or.inl ⟨by rfl, ?_⟩) (by assumption) ?_
    rotate_left
    · (intro wz hSw; (try dsimp only at hSw); go_simp; try with_reducible rfl)
    simp only [Act.put, List.setIfInBounds_toArray, List.set_cons_zero, List.set_cons_succ]
    refine wpAnyH_take (i := 3) (oi := ({ dst := some 14, op := Op.move (Operand.tmp 0), type := 82, pos := "ref.go:91", after := #[], guard := none } : Oper)) (v := ?_) rfl (by kernel_rfl) (by kernel_rfl) (by kernel_rfl) (fun _ _ _ h => h) (Or.inl ⟨by rfl, ?_⟩) (by assumption) ?_
    rotate_left
    · (intro wz hSw; (try dsimp only at hSw); go_simp; try with_reducible rfl)
    simp only [Act.put, List.setIfInBounds_toArray, List.set_cons_zero, List.set_cons_succ]
    refine wpAnyH_take (i := 4) (oi := ({ dst := some 15, op := Op.indexAddr 82 (Operand.tmp 14) (Operand.const (Value.int IntKind.i64 0)), type := 0, pos := "ref.go:91", after := #[{ on := 3, ground := Ground.data }], guard := none } : Oper)) (v := ?_) rfl (by kernel_rfl) (by kernel_rfl) (by kernel_rfl) (fun _ _ _ h => h) (Or.inl ⟨by rfl, ?_⟩) (by assumption) ?_
    rotate_left
    · (intro wz hSw; (try dsimp only at hSw); go_simp; try with_reducible rfl)
    simp only [Act.put, List.setIfInBounds_toArray, List.set_cons_zero, List.set_cons_succ]
    refine wpAnyH_take (i := 5) (oi := ({ dst := some 16, op := Op.load 2 (Operand.tmp 15), type := 2, pos := "ref.go:91", after := #[{ on := 4, ground := Ground.data }], guard := none } : Oper)) (v := ?_) rfl (by kernel_rfl) (by kernel_rfl) (by kernel_rfl) (fun _ _ _ h => h) (Or.inl ⟨by rfl, ?_⟩) (by assumption) ?_
    rotate_left
    · (intro wz hSw; (try dsimp only at hSw); go_simp; try with_reducible rfl)
    simp only [Act.put, List.setIfInBounds_toArray, List.set_cons_zero, List.set_cons_succ]
    refine wpAnyH_take (i := 6) (oi := ({ dst := some 17, op := Op.build 25 #[(0, Operand.tmp 13), (1, Operand.tmp 16)], type := 25, pos := "ref.go:91", after := #[{ on := 2, ground := Ground.data }, { on := 5, ground := Ground.data }], guard := none } : Oper)) (v := ?_) rfl (by kernel_rfl) (by kernel_rfl) (by kernel_rfl) (fun _ _ _ h => h) (Or.inl ⟨by rfl, ?_⟩) (by assumption) ?_
    rotate_left
    · (intro wz hSw; (try dsimp only at hSw); go_simp; try with_reducible rfl)
    simp only [Act.put, List.setIfInBounds_toArray, List.set_cons_zero, List.set_cons_succ]
    refine wpAnyH_ready (rs := [7]) (by kernel_rfl) (by simp) ?_
    refine AllReadyH.cons (o := ({ dst := some 6, op := Op.alloc 25, type := 0, pos := "ref.go:91", after := #[], guard := none } : Oper)) rfl (fun K hK => ?_) AllReadyH.nil
    · go_simp
      have hb1 : Below w0.heap.size w0 (w0.alloc (.cells #[.int .i64 0, .int .i64 0] 25)) := (Below.refl _ _).alloc (Nat.le_refl _) _
      have M1 := Bz.new w0 0 0 25
      have neM : N < w0.heap.size ∧ g ≠ w0.heap.size := ⟨hH0.2.1, Nat.ne_of_lt (World.block_lt_of_cell? _ _ hH0.1)⟩
      refine hK.out _ _ (HCL.out _ _ hH0 hb1) (fun hH1 => ?_)
      clear hK K
      obtain ⟨w1, hw1⟩ : ∃ w1, w1 = (w0.alloc (.cells #[.int .i64 0, .int .i64 0] 25)) := ⟨_, rfl⟩
      rw [← hw1] at hH1 M1 ⊢
      clear hw1
      generalize w0.heap.size = kM at *
      refine wpAnyH_ready (rs := [8]) (by kernel_rfl) (by simp) ?_
      refine AllReadyH.cons (o := ({ dst := none, op := Op.store 25 (Operand.tmp 6) (Operand.tmp 17), type := 0, pos := "ref.go:91", after := #[{ on := 7, ground := Ground.data }, { on := 6, ground := Ground.data }, { on := 0, ground := Ground.phase }, { on := 1, ground := Ground.phase }, { on := 2, ground := Ground.phase }, { on := 3, ground := Ground.phase }, { on := 4, ground := Ground.phase }, { on := 5, ground := Ground.phase }, { on := 6, ground := Ground.phase }, { on := 7, ground := Ground.phase }], guard := none } : Oper)) rfl (fun K hK => ?_) AllReadyH.nil
      · have c0 := M1.1.1
        have c1 := M1.1.2
        have c2 := M1.2.1
        have c3 := M1.2.2
        go_simp
        have M2 := M1.wrote (x' := n) (y' := n)
        refine hK.out _ _ (HST.out _ kM _ _ neM hH1) (fun hH2 => ?_)
        clear hK K c0 c1 c2 c3
        obtain ⟨w2, hw2⟩ : ∃ w2, w2 = ((w1.setCell ⟨kM, 0, none⟩ (.int .i64 n)).setCell ⟨kM, 1, none⟩ (.int .i64 n)) := ⟨_, rfl⟩
        rw [← hw2] at hH2 M2 ⊢
        clear hw2
        refine wpAnyH_done (by kernel_rfl) ?_ _
        go_wp2
        go_meet
        case rel => exact ⟨_, rfl, hH2.2.2.out.1, hH2.2.2.out.2.1, hH2.2.2.out.2.2, M2, neM⟩
  case rest =>
    obtain ⟨t, rfl, H1⟩ := hcut
    clear R HCL HST hS0
    go_wp2_with fail
    go_loopw [7] (fun ix wr => ∃ k : Nat, k ≤ ps.length ∧ ix = .int .i64 (k + 1) ∧ Hid (RowN wr g (n :: ps) ∧ Bz wr N 0 0 ∧ Below N w wr ∧ Bz wr t (lst n (ps.take k)) (grt n (ps.take k)) ∧ N < t ∧ g ≠ t)) (fun i _ => ps.length + 1 - (intOf i).toNat)
    case atStart => exact ⟨0, Nat.zero_le _, rfl, H1⟩
    case round =>
      obtain ⟨k, hk, rfl, RA⟩ := hrel
      clear H1
      by_cases hlt : k < ps.length
      · have k1 : (k : Int) < ps.length := by omega
        have k2 : (0 : Int) ≤ (k : Int) + 1 := by omega
        have hy : (n :: ps)[k + 1]? = some (ps[k]'hlt) := by simp [hlt]
        have HT : Hid (lst n (ps.take (k + 1)) = min (lst n (ps.take k)) (ps[k]'hlt) ∧ grt n (ps.take (k + 1)) = max (grt n (ps.take k)) (ps[k]'hlt)) := by
          unfold Hid
          rw [List.take_succ_eq_append_getElem hlt, lst_app, grt_app]
          exact ⟨rfl, rfl⟩
        generalize ps[k]'hlt = y at *
        generalize lst n (ps.take k) = lo at *
        generalize grt n (ps.take k) = hi at *
        have HY : Hid ((n :: ps)[k + 1]? = some y) := hy
        clear hy
        go_upto_region 7 with fail
        have HCL : Hid (∀ a b : World, (a.cell? ⟨g, k + 1, none⟩ = some (.int .i64 y) ∧ t < a.heap.size ∧ Hid (RowN a g (n :: ps) ∧ Bz a N 0 0 ∧ Below N w a)) → Below a.heap.size a b → (b.cell? ⟨g, k + 1, none⟩ = some (.int .i64 y) ∧ t < b.heap.size ∧ Hid (RowN b g (n :: ps) ∧ Bz b N 0 0 ∧ Below N w b))) := fun a b h hb => by
          have u := h.2.2.out
          exact ⟨(u.1.keep hb) (k + 1) y HY.out, Nat.lt_of_lt_of_le h.2.1 hb.size, u.1.keep hb, u.2.1.keep hb, u.2.2.trans (hb.mono (Nat.le_of_lt u.2.1.1.lt))⟩
        have HST : Hid (∀ (a : World) (q : Nat) (v u : Value), (N < q ∧ g ≠ q) → (a.cell? ⟨g, k + 1, none⟩ = some (.int .i64 y) ∧ t < a.heap.size ∧ Hid (RowN a g (n :: ps) ∧ Bz a N 0 0 ∧ Below N w a)) → (((a.setCell ⟨q, 0, none⟩ v).setCell ⟨q, 1, none⟩ u).cell? ⟨g, k + 1, none⟩ = some (.int .i64 y) ∧ t < ((a.setCell ⟨q, 0, none⟩ v).setCell ⟨q, 1, none⟩ u).heap.size ∧ Hid (RowN ((a.setCell ⟨q, 0, none⟩ v).setCell ⟨q, 1, none⟩ u) g (n :: ps) ∧ Bz ((a.setCell ⟨q, 0, none⟩ v).setCell ⟨q, 1, none⟩ u) N 0 0 ∧ Below N w ((a.setCell ⟨q, 0, none⟩ v).setCell ⟨q, 1, none⟩ u)))) := fun a q v u hq h => by
          have z := h.2.2.out
          have ne : ∀ k j : Nat, (⟨q, j, none⟩ : Addr) ≠ ⟨g, k, none⟩ := fun k j e => hq.2 (congrArg Addr.block e).symm
          have r : RowN ((a.setCell ⟨q, 0, none⟩ v).setCell ⟨q, 1, none⟩ u) g (n :: ps) := fun j m hj => (World.cell?_setCell_other _ _ _ _ (ne j 1)).trans ((World.cell?_setCell_other _ _ _ _ (ne j 0)).trans (z.1 j m hj))
          exact ⟨r (k + 1) y HY.out, by simpa using h.2.1, r, z.2.1.set' (by omega) v u, (z.2.2.setCell (p := ⟨q, 0, none⟩) (show N ≤ q by omega) v).setCell (p := ⟨q, 1, none⟩) (show N ≤ q by omega) u⟩
        refine wp_region_held_drew (S := fun w' => w'.cell? ⟨g, k + 1, none⟩ = some (.int .i64 y) ∧ t < w'.heap.size ∧ Hid (RowN w' g (n :: ps) ∧ Bz w' N 0 0 ∧ Below N w w')) (by kernel_rfl) (HCL.out _ _ ⟨RA.out.1 (k + 1) y HY.out, RA.out.2.2.2.1.1.lt, RA.out.1, RA.out.2.1, RA.out.2.2.1⟩ ((Below.refl _ _).drew)) (fun hH0 => ?_)
        refine wpAnyH_take (i := 1) (oi := ({ dst := some 25, op := Op.move (Operand.tmp 0), type := 82, pos := "ref.go:93", after := #[], guard := none } : Oper)) (v := ?_) rfl (by kernel_rfl) (by kernel_rfl) (by kernel_rfl) (fun _ _ _ h => h) (Or.inl ⟨by rfl, ?_⟩) (by assumption) ?_
        rotate_left
        · (intro wz hSw; (try dsimp only at hSw); go_simp; try with_reducible rfl)
        simp only [Act.put, List.setIfInBounds_toArray, List.set_cons_zero, List.set_cons_succ]
        refine wpAnyH_take (i := 2) (oi := ({ dst := some 26, op := Op.move (Operand.tmp 7), type := 3, pos := "ref.go:93", after := #[], guard := none } : Oper)) (v := ?_) rfl (by kernel_rfl) (by kernel_rfl) (by kernel_rfl) (fun _ _ _ h => h) (Or.inl ⟨by rfl, ?_⟩) (by assumption) ?_
        rotate_left
        · (intro wz hSw; (try dsimp only at hSw); go_simp; try with_reducible rfl)
        simp only [Act.put, List.setIfInBounds_toArray, List.set_cons_zero, List.set_cons_succ]
        refine wpAnyH_take (i := 3) (oi := ({ dst := some 27, op := Op.indexAddr 82 (Operand.tmp 25) (Operand.tmp 26), type := 0, pos := "ref.go:93", after := #[{ on := 1, ground := Ground.data }, { on := 2, ground := Ground.data }], guard := none } : Oper)) (v := ?_) rfl (by kernel_rfl) (by kernel_rfl) (by kernel_rfl) (fun _ _ _ h => h) (Or.inl ⟨by rfl, ?_⟩) (by assumption) ?_
        rotate_left
        · (intro wz hSw; (try dsimp only at hSw); go_simp; try with_reducible rfl)
        simp only [Act.put, List.setIfInBounds_toArray, List.set_cons_zero, List.set_cons_succ]
        refine wpAnyH_take (i := 4) (oi := ({ dst := some 28, op := Op.load 2 (Operand.tmp 27), type := 2, pos := "ref.go:93", after := #[{ on := 3, ground := Ground.data }], guard := none } : Oper)) (v := ?_) rfl (by kernel_rfl) (by kernel_rfl) (by kernel_rfl) (fun _ _ _ h => h) (Or.inl ⟨by rfl, ?_⟩) (by assumption) ?_
        rotate_left
        · (intro wz hSw; (try dsimp only at hSw); go_simp; try with_reducible rfl)
        simp only [Act.put, List.setIfInBounds_toArray, List.set_cons_zero, List.set_cons_succ]
        refine wpAnyH_take (i := 5) (oi := ({ dst := some 29, op := Op.move (Operand.tmp 0), type := 82, pos := "ref.go:93", after := #[], guard := none } : Oper)) (v := ?_) rfl (by kernel_rfl) (by kernel_rfl) (by kernel_rfl) (fun _ _ _ h => h) (Or.inl ⟨by rfl, ?_⟩) (by assumption) ?_
        rotate_left
        · (intro wz hSw; (try dsimp only at hSw); go_simp; try with_reducible rfl)
        simp only [Act.put, List.setIfInBounds_toArray, List.set_cons_zero, List.set_cons_succ]
        refine wpAnyH_take (i := 6) (oi := ({ dst := some 30, op := Op.move (Operand.tmp 7), type := 3, pos := "ref.go:93", after := #[], guard := none } : Oper)) (v := ?_) rfl (by kernel_rfl) (by kernel_rfl) (by kernel_rfl) (fun _ _ _ h => h) (Or.inl ⟨by rfl, ?_⟩) (by assumption) ?_
        rotate_left
        · (intro wz hSw; (try dsimp only at hSw); go_simp; try with_reducible rfl)
        simp only [Act.put, List.setIfInBounds_toArray, List.set_cons_zero, List.set_cons_succ]
        refine wpAnyH_take (i := 7) (oi := ({ dst := some 31, op := Op.indexAddr 82 (Operand.tmp 29) (Operand.tmp 30), type := 0, pos := "ref.go:93", after := #[{ on := 5, ground := Ground.data }, { on := 6, ground := Ground.data }], guard := none } : Oper)) (v := ?_) rfl (by kernel_rfl) (by kernel_rfl) (by kernel_rfl) (fun _ _ _ h => h) (Or.inl ⟨by rfl, ?_⟩) (by assumption) ?_
        rotate_left
        · (intro wz hSw; (try dsimp only at hSw); go_simp; try with_reducible rfl)
        simp only [Act.put, List.setIfInBounds_toArray, List.set_cons_zero, List.set_cons_succ]
        refine wpAnyH_take (i := 8) (oi := ({ dst := some 32, op := Op.load 2 (Operand.tmp 31), type := 2, pos := "ref.go:93", after := #[{ on := 7, ground := Ground.data }], guard := none } : Oper)) (v := ?_) rfl (by kernel_rfl) (by kernel_rfl) (by kernel_rfl) (fun _ _ _ h => h) (Or.inl ⟨by rfl, ?_⟩) (by assumption) ?_
        rotate_left
        · (intro wz hSw; (try dsimp only at hSw); go_simp; try with_reducible rfl)
        simp only [Act.put, List.setIfInBounds_toArray, List.set_cons_zero, List.set_cons_succ]
        refine wpAnyH_take (i := 9) (oi := ({ dst := some 33, op := Op.build 25 #[(0, Operand.tmp 28), (1, Operand.tmp 32)], type := 25, pos := "ref.go:93", after := #[{ on := 4, ground := Ground.data }, { on := 8, ground := Ground.data }], guard := none } : Oper)) (v := ?_) rfl (by kernel_rfl) (by kernel_rfl) (by kernel_rfl) (fun _ _ _ h => h) (Or.inl ⟨by rfl, ?_⟩) (by assumption) ?_
        rotate_left
        · (intro wz hSw; (try dsimp only at hSw); go_simp; try with_reducible rfl)
        simp only [Act.put, List.setIfInBounds_toArray, List.set_cons_zero, List.set_cons_succ]
        have X0 : Bz wr.drew t lo hi := (RA.out.2.2.2.1).keep ((Below.refl _ _).drew)
        obtain ⟨w0, hw0⟩ : ∃ w0, w0 = wr.drew := ⟨_, rfl⟩
        rw [← hw0] at hH0 X0 ⊢
        clear hw0
        refine wpAnyH_ready (rs := [0]) (by kernel_rfl) (by simp) ?_
        refine AllReadyH.cons (o := ({ dst := some 24, op := Op.load 25 (Operand.tmp 6), type := 25, pos := "ref.go:93", after := #[], guard := none } : Oper)) rfl (fun K hK => ?_) AllReadyH.nil
        · have cX0 := X0.1.1
          have cX1 := X0.1.2
          have cX2 := X0.2.1
          have cX3 := X0.2.2
          go_simp
          refine hK.out _ _ hH0 (fun _ => ?_)
          clear hK K cX0 cX1 cX2 cX3
          refine wpAnyH_ready (rs := [10]) (by kernel_rfl) (by simp) ?_
          refine AllReadyH.cons (o := ({ dst := some 34, op := Op.call { callee := Callee.value (Operand.func 111), args := #[Operand.tmp 24, Operand.tmp 33], argTypes := #[25, 25] }, type := 25, pos := "ref.go:93", after := #[{ on := 0, ground := Ground.data }, { on := 9, ground := Ground.data }], guard := none } : Oper)) rfl (fun K hK => ?_) AllReadyH.nil
          · have cX0 := X0.1.1
            have cX1 := X0.1.2
            have cX2 := X0.2.1
            have cX3 := X0.2.2
            go_simp
            go_at_call 111
            refine (bel3 (njoinr_any _ _ _ _ _)).mono ?_
            rintro e w1 ⟨rfl, hb1⟩
            have X1 := X0.keep hb1
            refine hK.out _ _ (HCL.out _ _ hH0 hb1) (fun hH1 => ?_)
            clear hK K cX0 cX1 cX2 cX3
            refine wpAnyH_ready (rs := [11]) (by kernel_rfl) (by simp) ?_
            refine AllReadyH.cons (o := ({ dst := none, op := Op.store 25 (Operand.tmp 6) (Operand.tmp 34), type := 0, pos := "ref.go:93", after := #[{ on := 10, ground := Ground.data }, { on := 10, ground := Ground.chain }, { on := 0, ground := Ground.phase }, { on := 1, ground := Ground.phase }, { on := 2, ground := Ground.phase }, { on := 3, ground := Ground.phase }, { on := 4, ground := Ground.phase }, { on := 5, ground := Ground.phase }, { on := 6, ground := Ground.phase }, { on := 7, ground := Ground.phase }, { on := 8, ground := Ground.phase }, { on := 9, ground := Ground.phase }, { on := 10, ground := Ground.phase }], guard := none } : Oper)) rfl (fun K hK => ?_) AllReadyH.nil
            · have cX0 := X1.1.1
              have cX1 := X1.1.2
              have cX2 := X1.2.1
              have cX3 := X1.2.2
              go_simp
              have X2 := X1.wrote (x' := (min lo y)) (y' := (max hi y))
              refine hK.out _ _ (HST.out _ t _ _ RA.out.2.2.2.2 hH1) (fun hH2 => ?_)
              clear hK K cX0 cX1 cX2 cX3
              obtain ⟨w2, hw2⟩ : ∃ w2, w2 = ((w1.setCell ⟨t, 0, none⟩ (.int .i64 (min lo y))).setCell ⟨t, 1, none⟩ (.int .i64 (max hi y))) := ⟨_, rfl⟩
              rw [← hw2] at hH2 X2 ⊢
              clear hw2
              refine wpAnyH_done (by kernel_rfl) ?_ _
              go_wp2_with fail
              go_round
              case rel => exact ⟨k + 1, by omega, by push_cast; rfl, hH2.2.2.out.1, hH2.2.2.out.2.1, hH2.2.2.out.2.2, by rw [HT.out.1, HT.out.2]; exact X2, RA.out.2.2.2.2.1, RA.out.2.2.2.2.2⟩
              case measure => simp [intOf]; omega
      · have k1 : ¬ (k : Int) < ps.length := by omega
        obtain rfl : k = ps.length := by omega
        rw [List.take_length] at RA
        have c0 := RA.out.2.2.2.1.1.1
        have c1 := RA.out.2.2.2.1.1.2
        have d0 := RA.out.2.1.1.1
        have d1 := RA.out.2.1.1.2
        have d2 := RA.out.2.1.2.1
        have d3 := RA.out.2.1.2.2
        have hB := RA.out.2.2.1
        go_wp2_with fail
        clear hk hlt
        refine bodyPost_ret (by simp [results, Tryz.results89, go_sem, *]; try rfl) rfl ⟨?_, by rw [← HN.out]; exact (hB.setCell (by simp) _).setCell (by simp) _⟩
        rfl
end Go.Proofs.YthiacdbjlkpfgaaGreatDoor
namespace Go.Proofs.YthiacdbjlkpfgaaGreatDoor
open Go.RowKit
theorem RowN.new2 (x y : Int) (w : World) : RowN (w.alloc (.cells #[.int .i64 x, .int .i64 y] 2)) w.heap.size [x, y] := by
  intro j n hj
  match j, hj with
  | 0, hj => simp at hj; subst hj; simp
  | 1, hj => simp at hj; subst hj; simp
def hulP (ok : Bool) (x y : Int) : Int × Int := if ok then (min x y, max x y) else allP
theorem hull2 (x y : Int) (ok : Bool) (c k0 : Nat) (w : World) (hk : k0 = w.heap.size) : Calls Tryz.prog 89 #[.slice (some ⟨k0, 0, none⟩) 2 c, .bool ok] (w.alloc (.cells #[.int .i64 x, .int .i64 y] 2)) fun e w' => e = .returned (.tuple #[.agg #[.int .i64 (hulP ok x y).1, .int .i64 (hulP ok x y).2], .bool true]) ∧ Below w.heap.size w w' := by
  have k : Below w.heap.size w (w.alloc (.cells #[.int .i64 x, .int .i64 y] 2)) := (Below.refl _ _).alloc (Nat.le_refl _) _
  subst hk
  cases ok
  · refine (hull_no _ _).mono ?_
    rintro e w1 ⟨rfl, hb⟩
    exact ⟨rfl, k.trans (hb.mono (by simp))⟩
  · refine (hull_yes w.heap.size c x [y] _ (RowN.new2 x y w) (Nat.le_of_ble_eq_true rfl)).mono ?_
    rintro e w1 ⟨rfl, hb⟩
    refine ⟨?_, k.trans (hb.mono (by simp))⟩
    rfl
end Go.Proofs.YthiacdbjlkpfgaaGreatDoor
namespace Go.Proofs.YthiacdbjlkpfgaaGreatDoor
open Go.RowKit
set_option maxRecDepth 100000 in
set_option maxHeartbeats 16000000 in
theorem twor_4 (a b : Int × Int) (w : World) (ha : Sp a) (hb : Sp b) : Calls Tryz.prog 40 #[.int .i64 4, .agg #[.int .i64 a.1, .int .i64 a.2], .agg #[.int .i64 b.1, .int .i64 b.2]] w fun e w' => e = .returned (.tuple #[.agg #[.int .i64 ((twoP 4 a b).1).1, .int .i64 ((twoP 4 a b).1).2], .bool (twoP 4 a b).2]) ∧ Below w.heap.size w w' := by
  have e0 : twoP 4 a b = (sumsP a b, true) := by unfold twoP; simp only [Int.reduceEq, if_false, if_true]
  have i1 : i64 a.1 := by unfold Sp at ha; unfold i64; omega
  have i2 : i64 a.2 := by unfold Sp at ha; unfold i64; omega
  have i3 : i64 b.1 := by unfold Sp at hb; unfold i64; omega
  have i4 : i64 b.2 := by unfold Sp at hb; unfold i64; omega
  have HQ : Hid (sumsP a b = hulP (fit (a.1 + b.1) && fit (a.2 + b.2)) (wrap64 (a.1 + b.1)) (wrap64 (a.2 + b.2))) := by
    unfold Hid hulP sumsP
    by_cases h : (fit (a.1 + b.1) && fit (a.2 + b.2)) = true
    · rw [if_pos h, if_pos h]
      rw [Bool.and_eq_true] at h
      unfold fit at h
      simp only [Bool.and_eq_true, decide_eq_true_eq] at h
      rw [wrap_fit _ h.1.1 h.1.2, wrap_fit _ h.2.1 h.2.2]
      unfold Sp at ha hb
      rw [Prod.mk.injEq]
      omega
    · rw [if_neg h, if_neg h]
  rw [e0]
  dsimp only
  generalize sumsP a b = r at *
  clear e0 ha hb
  cases hf : fit (a.1 + b.1)
  · go_enter Tryz.func40, Tryz.ntmps40
    go_wp2_with (first | (go_at_call 88; refine (add_any _ _ _ (by assumption) (by assumption)).mono ?_; rintro e w1 ⟨rfl, rfl⟩) | (go_at_call 89; refine (hull2 _ _ _ _ _ _ (by simp)).mono ?_; rintro e wQ ⟨rfl, hbQ⟩; obtain ⟨hcQ, hfQ⟩ := bcell hbQ; have hzQ := hbQ.size; simp at hzQ))

    refine bodyPost_ret (by simp [results, Tryz.results40, go_sem, *]; try rfl) rfl ⟨?_, (by repeat (first | exact Below.refl _ _ | (refine Below.drew ?_) | (refine below_drewN ?_ _) | (refine Below.setCell ?_ (by first | omega | (simp; done) | (simp; omega)) _) | (refine Below.alloc ?_ (by first | omega | (simp; done) | (simp; omega)) _) | (refine Below.trans ?_ (Below.mono (by assumption) (by first | omega | (simp; done) | (simp; omega))))))⟩
    rw [HQ.out, hf]
    rfl
  · go_enter Tryz.func40, Tryz.ntmps40
    go_wp2_with (first | (go_at_call 88; refine (add_any _ _ _ (by assumption) (by assumption)).mono ?_; rintro e w1 ⟨rfl, rfl⟩) | (go_at_call 89; refine (hull2 _ _ _ _ _ _ (by simp)).mono ?_; rintro e wQ ⟨rfl, hbQ⟩; obtain ⟨hcQ, hfQ⟩ := bcell hbQ; have hzQ := hbQ.size; simp at hzQ))

    refine bodyPost_ret (by simp [results, Tryz.results40, go_sem, *]; try rfl) rfl ⟨?_, (by repeat (first | exact Below.refl _ _ | (refine Below.drew ?_) | (refine below_drewN ?_ _) | (refine Below.setCell ?_ (by first | omega | (simp; done) | (simp; omega)) _) | (refine Below.alloc ?_ (by first | omega | (simp; done) | (simp; omega)) _) | (refine Below.trans ?_ (Below.mono (by assumption) (by first | omega | (simp; done) | (simp; omega))))))⟩
    rw [HQ.out, hf]
    rfl
end Go.Proofs.YthiacdbjlkpfgaaGreatDoor
namespace Go.Proofs.YthiacdbjlkpfgaaGreatDoor
open Go.RowKit
set_option maxRecDepth 100000 in
set_option maxHeartbeats 16000000 in
theorem twor_5 (a b : Int × Int) (w : World) (ha : Sp a) (hb : Sp b) : Calls Tryz.prog 40 #[.int .i64 5, .agg #[.int .i64 a.1, .int .i64 a.2], .agg #[.int .i64 b.1, .int .i64 b.2]] w fun e w' => e = .returned (.tuple #[.agg #[.int .i64 ((twoP 5 a b).1).1, .int .i64 ((twoP 5 a b).1).2], .bool (twoP 5 a b).2]) ∧ Below w.heap.size w w' := by
  have e0 : twoP 5 a b = (diffsP a b, true) := by unfold twoP; simp only [Int.reduceEq, if_false, if_true]
  have i1 : i64 a.1 := by unfold Sp at ha; unfold i64; omega
  have i2 : i64 a.2 := by unfold Sp at ha; unfold i64; omega
  have i3 : i64 b.1 := by unfold Sp at hb; unfold i64; omega
  have i4 : i64 b.2 := by unfold Sp at hb; unfold i64; omega
  have HQ : Hid (diffsP a b = hulP (fit (a.1 - b.2) && fit (a.2 - b.1)) (wrap64 (a.1 - b.2)) (wrap64 (a.2 - b.1))) := by
    unfold Hid hulP diffsP
    by_cases h : (fit (a.1 - b.2) && fit (a.2 - b.1)) = true
    · rw [if_pos h, if_pos h]
      rw [Bool.and_eq_true] at h
      unfold fit at h
      simp only [Bool.and_eq_true, decide_eq_true_eq] at h
      rw [wrap_fit _ h.1.1 h.1.2, wrap_fit _ h.2.1 h.2.2]
      unfold Sp at ha hb
      rw [Prod.mk.injEq]
      omega
    · rw [if_neg h, if_neg h]
  rw [e0]
  dsimp only
  generalize diffsP a b = r at *
  clear e0 ha hb
  cases hf : fit (a.1 - b.2)
  · go_enter Tryz.func40, Tryz.ntmps40
    go_wp2_with (first | (go_at_call 90; refine (sub_any _ _ _ (by assumption) (by assumption)).mono ?_; rintro e w1 ⟨rfl, rfl⟩) | (go_at_call 89; refine (hull2 _ _ _ _ _ _ (by simp)).mono ?_; rintro e wQ ⟨rfl, hbQ⟩; obtain ⟨hcQ, hfQ⟩ := bcell hbQ; have hzQ := hbQ.size; simp at hzQ))

    refine bodyPost_ret (by simp [results, Tryz.results40, go_sem, *]; try rfl) rfl ⟨?_, (by repeat (first | exact Below.refl _ _ | (refine Below.drew ?_) | (refine below_drewN ?_ _) | (refine Below.setCell ?_ (by first | omega | (simp; done) | (simp; omega)) _) | (refine Below.alloc ?_ (by first | omega | (simp; done) | (simp; omega)) _) | (refine Below.trans ?_ (Below.mono (by assumption) (by first | omega | (simp; done) | (simp; omega))))))⟩
    rw [HQ.out, hf]
    rfl
  · go_enter Tryz.func40, Tryz.ntmps40
    go_wp2_with (first | (go_at_call 90; refine (sub_any _ _ _ (by assumption) (by assumption)).mono ?_; rintro e w1 ⟨rfl, rfl⟩) | (go_at_call 89; refine (hull2 _ _ _ _ _ _ (by simp)).mono ?_; rintro e wQ ⟨rfl, hbQ⟩; obtain ⟨hcQ, hfQ⟩ := bcell hbQ; have hzQ := hbQ.size; simp at hzQ))

    refine bodyPost_ret (by simp [results, Tryz.results40, go_sem, *]; try rfl) rfl ⟨?_, (by repeat (first | exact Below.refl _ _ | (refine Below.drew ?_) | (refine below_drewN ?_ _) | (refine Below.setCell ?_ (by first | omega | (simp; done) | (simp; omega)) _) | (refine Below.alloc ?_ (by first | omega | (simp; done) | (simp; omega)) _) | (refine Below.trans ?_ (Below.mono (by assumption) (by first | omega | (simp; done) | (simp; omega))))))⟩
    rw [HQ.out, hf]
    rfl
end Go.Proofs.YthiacdbjlkpfgaaGreatDoor
namespace Go.Proofs.YthiacdbjlkpfgaaGreatDoor
open Go.RowKit
/-- two numbers more, in a region that draws -/
theorem wp_app2 {o : Oper} {a : Act} {K : Act → World → Prop} {Q : Exit → Act → World → Prop} (w0 w1 : World) (s x : Operand)
    (ho : o.op = .call { callee := .builtin .append, args := #[s, x], argTypes := #[82, 82] })
    (v : Value) (ps : List Int) (n m : Int) (hS : St w0 w1 v ps) (hs : a.eval s = v) (hx : a.eval x = .slice (some ⟨w1.heap.size, 0, none⟩) 2 2) (hl : ps.length ≤ 1000)
    (h : ∀ a' c' w', St w0 w' (.slice a' (ps.length + 2) c') (ps ++ [n, m]) → K (a.put o.dst (.slice a' (ps.length + 2) c')) w') : o.wp Tryz.prog a (w1.alloc (.cells #[.int .i64 n, .int .i64 m] 2)) K Q := by
  obtain ⟨i0, hi, hz0, hz1, hz2⟩ := info_parts info2p
  refine wp_append_own _ s x 82 ho w0.heap.size 2 i0 (.int .i64 0) 1 8 Tryz.underlying82 hi hz0 hz1 hz2 rfl (by decide) v ps.length (I64 ps) hs (hS.own.alloc _) ⟨w1.heap.size, 0, none⟩ 2 2 [.int .i64 n, .int .i64 m] hx rfl ?_ ?_ ?_ ?_ ?_ ?_
  · intro j u hj
    match j, hj with
    | 0, hj => simp at hj; subst hj; simp [Addr.add]
    | 1, hj => simp at hj; subst hj; simp [Addr.add]
  · intro u hu
    simp at hu
    rcases hu with rfl | rfl <;> rfl
  · unfold maxLen; omega
  · omega
  · have := hS.bel.size; simp; omega
  · intro v' w' hown hgrow _
    have hB := hS.bel.size
    have hT : St w0 w' v' (ps ++ [n, m]) := by
      refine ⟨?_, ((hS.bel.alloc (by omega) _)).grown hgrow (by simp; omega) (fun k hk => ((hS.own.lt k hk).1))⟩
      have e : I64 (ps ++ [n, m]) = I64 ps ++ [.int .i64 n, .int .i64 m] := by simp [I64]
      rw [e]
      simpa using hown
    obtain ⟨a', c', rfl⟩ := hT.slice
    simp only [List.length_append, List.length_cons, List.length_nil, Nat.zero_add] at hT ⊢
    exact h a' c' w' hT
/-- two numbers more -/
theorem wpList_app2 {ops : Array Oper} {rest : List Oper} {o : Oper} {a : Act} {Q : Exit → Act → World → Prop} (w0 w1 : World) (hgd : o.guard = none) (s x : Operand)
    (ho : o.op = .call { callee := .builtin .append, args := #[s, x], argTypes := #[82, 82] })
    (v : Value) (ps : List Int) (n m : Int) (hS : St w0 w1 v ps) (hs : a.eval s = v) (hx : a.eval x = .slice (some ⟨w1.heap.size, 0, none⟩) 2 2) (hl : ps.length ≤ 1000)
    (h : ∀ a' c' w', St w0 w' (.slice a' (ps.length + 2) c') (ps ++ [n, m]) → wpList Tryz.prog ops Q rest (a.put o.dst (.slice a' (ps.length + 2) c')) w') : wpList Tryz.prog ops Q (o :: rest) a (w1.alloc (.cells #[.int .i64 n, .int .i64 m] 2)) :=
  wpList_plain hgd fun _ hK => wp_app2 w0 w1 s x ho v ps n m hS hs hx hl fun a' c' w' h1 => hK _ _ (h a' c' w' h1)
end Go.Proofs.YthiacdbjlkpfgaaGreatDoor
namespace Go.Proofs.YthiacdbjlkpfgaaGreatDoor
open Go.RowKit
/-- the three boxes of div: a, b, what is returned -/
structure D4 (w W : World) (A : Nat) (a b : Int × Int) : Prop where
  xa : Bx W A a.1 a.2
  xb : Bx W (A + 1) b.1 b.2
  xr : Bz W (A + 1 + 1) 0 0
  bel : Below A w W
theorem D4.keep {w W W' : World} {A : Nat} {a b : Int × Int} (h : D4 w W A a b) (hb : Below W.heap.size W W') : D4 w W' A a b :=
  ⟨h.xa.keep hb, h.xb.keep hb, h.xr.keep hb, h.bel.trans (hb.mono (Nat.le_of_lt h.xa.lt))⟩
theorem D4.start (w : World) (a b : Int × Int) : D4 w (((w.alloc (.cells #[.int .i64 a.1, .int .i64 a.2] 25)).alloc (.cells #[.int .i64 b.1, .int .i64 b.2] 25)).alloc (.cells #[.int .i64 0, .int .i64 0] 25)) w.heap.size a b := by
  have h1 := Bx.new w a.1 a.2 25
  have h2 := Bx.new (w.alloc (.cells #[.int .i64 a.1, .int .i64 a.2] 25)) b.1 b.2 25
  have h3 := Bz.new ((w.alloc (.cells #[.int .i64 a.1, .int .i64 a.2] 25)).alloc (.cells #[.int .i64 b.1, .int .i64 b.2] 25)) 0 0 25
  have k : ∀ (x : World) (o : Obj), Below x.heap.size x (x.alloc o) := fun x o => (Below.refl _ _).alloc (Nat.le_refl _) o
  exact ⟨(h1.keep (k _ _)).keep (k _ _), by simpa using h2.keep (k _ _), by simpa using h3, (by repeat (first | exact Below.refl _ _ | (refine Below.drew ?_) | (refine below_drewN ?_ _) | (refine Below.setCell ?_ (by first | omega | (simp; done) | (simp; omega)) _) | (refine Below.alloc ?_ (by first | omega | (simp; done) | (simp; omega)) _) | (refine Below.trans ?_ (Below.mono (by assumption) (by first | omega | (simp; done) | (simp; omega))))))⟩
theorem quo_wrap (x e : Int) (hx : i64 x) (he : e ≠ 0) (hm : ¬ (x = -9223372036854775808 ∧ e = -1)) : IntKind.i64.wrap (x.tdiv e) = x.tdiv e := by
  have q := tdiv_fit x e hx he hm
  rw [wrapK]
  exact wrap_fit _ q.1 q.2
end Go.Proofs.YthiacdbjlkpfgaaGreatDoor
