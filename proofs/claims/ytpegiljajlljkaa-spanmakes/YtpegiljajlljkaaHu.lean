import Derived.Test.YtpegiljajlljkaaSi
import Derived.Lib.ItoaWalk
import Derived.Deep.CutBlock
import Derived.LoopTactic
import Derived.Deep.DeepCutAuto
namespace Go.Proofs.Ytpegiljajlljkaa
open Go.RowKit
theorem RowN.keep {w w' : World} {g : Nat} {ps : List Int} (h : RowN w g ps) (hb : Below w.heap.size w w') : RowN w' g ps := fun j n hj => (hb.cell (p := ⟨g, j, none⟩) (World.block_lt_of_cell? w _ (h j n hj))).trans (h j n hj)
set_option maxRecDepth 100000 in
theorem hull_no (v : Value) (w : World) : Calls Try.prog 46 #[v, .bool false] w fun e w' => e = .returned (.tuple #[.agg #[.int .i64 (-9223372036854775808), .int .i64 9223372036854775807], .bool true]) ∧ Below w.heap.size w w' := by
  go_enter Try.func46, Try.ntmps46
  go_wp2_with (go_at_call 18; refine (anyr_any _).mono ?_; rintro e w1 ⟨rfl, o1, rfl⟩)
  refine bodyPost_ret (by simp [results, Try.results46, go_sem]; try rfl) rfl ⟨?_, (by repeat (first | exact Below.refl _ _ | (refine Below.drew ?_) | (refine below_drewN ?_ _) | (refine Below.setCell ?_ (by first | omega | (simp; done) | (simp; omega)) _) | (refine Below.alloc ?_ (by first | omega | (simp; done) | (simp; omega)) _) | (refine Below.trans ?_ (Below.mono (by assumption) (by first | omega | (simp; done) | (simp; omega))))))⟩
  rfl
set_option maxRecDepth 100000 in
set_option maxHeartbeats 16000000 in
theorem hull_yes (g c : Nat) (n : Int) (ps : List Int) (w : World) (h : RowN w g (n :: ps)) (hl : ps.length ≤ 100) : Calls Try.prog 46 #[.slice (some ⟨g, 0, none⟩) (ps.length + 1) c, .bool true] w fun e w' => e = .returned (.tuple #[.agg #[.int .i64 (lst n ps), .int .i64 (grt n ps)], .bool true]) ∧ Below w.heap.size w w' := by
  have HH : Hid (RowN w g (n :: ps)) := h
  clear h
  have l1 : (ps.length : Int) + 1 ≤ 101 := by omega
  have l2 : (0 : Int) ≤ ps.length := by omega
  have x0 : RowN (w.alloc (.cells #[.int .i64 0, .int .i64 0] 23)) g (n :: ps) := HH.out.keep ((Below.refl _ _).alloc (Nat.le_refl _) _)
  have x1 := Bz.new w 0 0 23
  have x2 : Below w.heap.size w (w.alloc (.cells #[.int .i64 0, .int .i64 0] 23)) := (by repeat (first | exact Below.refl _ _ | (refine Below.drew ?_) | (refine below_drewN ?_ _) | (refine Below.setCell ?_ (by first | omega | (simp; done) | (simp; omega)) _) | (refine Below.alloc ?_ (by first | omega | (simp; done) | (simp; omega)) _) | (refine Below.trans ?_ (Below.mono (by assumption) (by first | omega | (simp; done) | (simp; omega))))))
  go_enter Try.func46, Try.ntmps46
  go_upto_region 3 with fail
  go_name_world W hW
  rw [hW] at x0 x1 x2
  clear hW
  obtain ⟨N, hN⟩ : ∃ N, N = w.heap.size := ⟨_, rfl⟩
  rw [← hN] at x1 x2 ⊢
  have HN : Hid (N = w.heap.size) := hN
  clear hN
  have R : Hid (RowN W g (n :: ps) ∧ Bz W N 0 0 ∧ Below N w W) := ⟨x0, x1, x2⟩
  clear x0 x1 x2
  have HCL : Hid (∀ a b : World, (a.cell? ⟨g, 0, none⟩ = some (.int .i64 n) ∧ N < a.heap.size ∧ Hid (RowN a g (n :: ps) ∧ Bz a N 0 0 ∧ Below N w a)) → Below a.heap.size a b → (b.cell? ⟨g, 0, none⟩ = some (.int .i64 n) ∧ N < b.heap.size ∧ Hid (RowN b g (n :: ps) ∧ Bz b N 0 0 ∧ Below N w b))) := fun a b h hb => by
    have t := h.2.2.out
    exact ⟨(t.1.keep hb) 0 n rfl, Nat.lt_of_lt_of_le h.2.1 hb.size, t.1.keep hb, t.2.1.keep hb, t.2.2.trans (hb.mono (Nat.le_of_lt h.2.1))⟩
  have HST : Hid (∀ (a : World) (q : Nat) (v u : Value), (N < q ∧ g ≠ q) → (a.cell? ⟨g, 0, none⟩ = some (.int .i64 n) ∧ N < a.heap.size ∧ Hid (RowN a g (n :: ps) ∧ Bz a N 0 0 ∧ Below N w a)) → (((a.setCell ⟨q, 0, none⟩ v).setCell ⟨q, 1, none⟩ u).cell? ⟨g, 0, none⟩ = some (.int .i64 n) ∧ N < ((a.setCell ⟨q, 0, none⟩ v).setCell ⟨q, 1, none⟩ u).heap.size ∧ Hid (RowN ((a.setCell ⟨q, 0, none⟩ v).setCell ⟨q, 1, none⟩ u) g (n :: ps) ∧ Bz ((a.setCell ⟨q, 0, none⟩ v).setCell ⟨q, 1, none⟩ u) N 0 0 ∧ Below N w ((a.setCell ⟨q, 0, none⟩ v).setCell ⟨q, 1, none⟩ u)))) := fun a q v u hq h => by
    have t := h.2.2.out
    have ne : ∀ k j : Nat, (⟨q, j, none⟩ : Addr) ≠ ⟨g, k, none⟩ := fun k j e => hq.2 (congrArg Addr.block e).symm
    have r : RowN ((a.setCell ⟨q, 0, none⟩ v).setCell ⟨q, 1, none⟩ u) g (n :: ps) := fun j m hj => (World.cell?_setCell_other _ _ _ _ (ne j 1)).trans ((World.cell?_setCell_other _ _ _ _ (ne j 0)).trans (t.1 j m hj))
    exact ⟨r 0 n rfl, by simpa using h.2.1, r, t.2.1.set' (by omega) v u, (t.2.2.setCell (p := ⟨q, 0, none⟩) (show N ≤ q by omega) v).setCell (p := ⟨q, 1, none⟩) (show N ≤ q by omega) u⟩
  have hS0 : W.cell? ⟨g, 0, none⟩ = some (.int .i64 n) ∧ N < W.heap.size ∧ Hid (RowN W g (n :: ps) ∧ Bz W N 0 0 ∧ Below N w W) := ⟨R.out.1 0 n rfl, R.out.2.1.1.lt, R⟩
  go_cut [6] (fun v6 wy => ∃ t, v6 = .pointer (some ⟨t, 0, none⟩) ∧ Hid (RowN wy g (n :: ps) ∧ Bz wy N 0 0 ∧ Below N w wy ∧ Bz wy t n n ∧ N < t ∧ g ≠ t))
  case first =>
    refine wp_region_held_drew (S := fun w' => w'.cell? ⟨g, 0, none⟩ = some (.int .i64 n) ∧ N < w'.heap.size ∧ Hid (RowN w' g (n :: ps) ∧ Bz w' N 0 0 ∧ Below N w w')) (by kernel_rfl) (HCL.out _ _ hS0 ((Below.refl _ _).drew)) (fun hH0 => ?_)
    obtain ⟨w0, hw0⟩ : ∃ w0, w0 = W.drew := ⟨_, rfl⟩
    rw [← hw0] at hH0 ⊢
    clear hw0
    refine wpAnyH_take (i := 0) (oi := ({ dst := some 11, op := Op.move (Operand.tmp 0), type := 59, pos := "ref.go:91", after := #[], guard := none } : Oper)) (v := ?_) rfl (by kernel_rfl) (by kernel_rfl) (by kernel_rfl) (fun _ _ _ h => h) (Or.inl ⟨by rfl, ?_⟩) (by assumption) ?_
    rotate_left
    · (intro wz hSw; (try dsimp only at hSw); go_simp; try with_reducible rfl)
    simp only [Act.put, List.setIfInBounds_toArray, List.set_cons_zero, List.set_cons_succ]
    refine wpAnyH_take (i := 1) (oi := ({ dst := some 12, op := Op.indexAddr 59 (Operand.tmp 11) (Operand.const (Value.int IntKind.i64 0)), type := 0, pos := "ref.go:91", after := #[{ on := 0, ground := Ground.data }], guard := none } : Oper)) (v := ?_) rfl (by kernel_rfl) (by kernel_rfl) (by kernel_rfl) (fun _ _ _ h => h) (Or.inl ⟨by rfl, ?_⟩) (by assumption) ?_
    rotate_left
    · (intro wz hSw; (try dsimp only at hSw); go_simp; try with_reducible rfl)
    simp only [Act.put, List.setIfInBounds_toArray, List.set_cons_zero, List.set_cons_succ]
    refine wpAnyH_take (i := 2) (oi := ({ dst := some 13, op := Op.load 2 (Operand.tmp 12), type := 2, pos := "ref.go:91", after := #[{ on := 1, ground := Ground.data }], guard := none } : Oper)) (v := ?_) rfl (by kernel_rfl) (by kernel_rfl) (by kernel_rfl) (fun _ _ _ h => h) (Or.inl ⟨by rfl, ?_⟩) (by assumption) ?_
    rotate_left
    · (intro wz hSw; (try dsimp only at hSw); go_simp; try with_reducible rfl)
    simp only [Act.put, List.setIfInBounds_toArray, List.set_cons_zero, List.set_cons_succ]
    refine wpAnyH_take (i := 3) (oi := ({ dst := some 14, op := Op.move (Operand.tmp 0), type := 59, pos := "ref.go:91", after := #[], guard := none } : Oper)) (v := ?_) rfl (by kernel_rfl) (by kernel_rfl) (by kernel_rfl) (fun _ _ _ h => h) (Or.inl ⟨by rfl, ?_⟩) (by assumption) ?_
    rotate_left
    · (intro wz hSw; (try dsimp only at hSw); go_simp; try with_reducible rfl)
    simp only [Act.put, List.setIfInBounds_toArray, List.set_cons_zero, List.set_cons_succ]
    refine wpAnyH_take (i := 4) (oi := ({ dst := some 15, op := Op.indexAddr 59 (Operand.tmp 14) (Operand.const (Value.int IntKind.i64 0)), type := 0, pos := "ref.go:91", after := #[{ on := 3, ground := Ground.data }], guard := none } : Oper)) (v := ?_) rfl (by kernel_rfl) (by kernel_rfl) (by kernel_rfl) (fun _ _ _ h => h) (Or.inl ⟨by rfl, ?_⟩) (by assumption) ?_
    rotate_left
    · (intro wz hSw; (try dsimp only at hSw); go_simp; try with_reducible rfl)
    simp only [Act.put, List.setIfInBounds_toArray, List.set_cons_zero, List.set_cons_succ]
    refine wpAnyH_take (i := 5) (oi := ({ dst := some 16, op := Op.load 2 (Operand.tmp 15), type := 2, pos := "ref.go:91", after := #[{ on := 4, ground := Ground.data }], guard := none } : Oper)) (v := ?_) rfl (by kernel_rfl) (by kernel_rfl) (by kernel_rfl) (fun _ _ _ h => h) (Or.inl ⟨by rfl, ?_⟩) (by assumption) ?_
    rotate_left
    · (intro wz hSw; (try dsimp only at hSw); go_simp; try with_reducible rfl)
    simp only [Act.put, List.setIfInBounds_toArray, List.set_cons_zero, List.set_cons_succ]
    refine wpAnyH_take (i := 6) (oi := ({ dst := some 17, op := Op.build 23 #[(0, Operand.tmp 13), (1, Operand.tmp 16)], type := 23, pos := "ref.go:91", after := #[{ on := 2, ground := Ground.data }, { on := 5, ground := Ground.data }], guard := none } : Oper)) (v := ?_) rfl (by kernel_rfl) (by kernel_rfl) (by kernel_rfl) (fun _ _ _ h => h) (Or.inl ⟨by rfl, ?_⟩) (by assumption) ?_
    rotate_left
    · (intro wz hSw; (try dsimp only at hSw); go_simp; try with_reducible rfl)
    simp only [Act.put, List.setIfInBounds_toArray, List.set_cons_zero, List.set_cons_succ]
    refine wpAnyH_ready (rs := [7]) (by kernel_rfl) (by simp) ?_
    refine AllReadyH.cons (o := ({ dst := some 6, op := Op.alloc 23, type := 0, pos := "ref.go:91", after := #[], guard := none } : Oper)) rfl (fun K hK => ?_) AllReadyH.nil
    · go_simp
      have hb1 : Below w0.heap.size w0 (w0.alloc (.cells #[.int .i64 0, .int .i64 0] 23)) := (Below.refl _ _).alloc (Nat.le_refl _) _
      have M1 := Bz.new w0 0 0 23
      have neM : N < w0.heap.size ∧ g ≠ w0.heap.size := ⟨hH0.2.1, Nat.ne_of_lt (World.block_lt_of_cell? _ _ hH0.1)⟩
      refine hK.out _ _ (HCL.out _ _ hH0 hb1) (fun hH1 => ?_)
      clear hK K
      obtain ⟨w1, hw1⟩ : ∃ w1, w1 = (w0.alloc (.cells #[.int .i64 0, .int .i64 0] 23)) := ⟨_, rfl⟩
      rw [← hw1] at hH1 M1 ⊢
      clear hw1
      generalize w0.heap.size = kM at *
      refine wpAnyH_ready (rs := [8]) (by kernel_rfl) (by simp) ?_
      refine AllReadyH.cons (o := ({ dst := none, op := Op.store 23 (Operand.tmp 6) (Operand.tmp 17), type := 0, pos := "ref.go:91", after := #[{ on := 7, ground := Ground.data }, { on := 6, ground := Ground.data }, { on := 0, ground := Ground.phase }, { on := 1, ground := Ground.phase }, { on := 2, ground := Ground.phase }, { on := 3, ground := Ground.phase }, { on := 4, ground := Ground.phase }, { on := 5, ground := Ground.phase }, { on := 6, ground := Ground.phase }, { on := 7, ground := Ground.phase }], guard := none } : Oper)) rfl (fun K hK => ?_) AllReadyH.nil
      · have c0 := M1.1.1
        have c1 := M1.1.2
        have c2 := M1.2.1
        have c3 := M1.2.2
        go_simp
        have M2 := M1.wrote (x' := n) (y' := n)
        refine hK.out _ _ (HST.out _ kM _ _ neM hH1) (fun hH2 => ?_)
        clear hK K c0 c1 c2 c3
        obtain ⟨w2, hw2⟩ : ∃ w2, w2 = ((w1.setCell ⟨kM, 0, none⟩ (.int .i64 n)).setCell ⟨kM, 1, none⟩ (.int .i64 n)) := ⟨_, rfl⟩
        rw [← hw2] at hH2 M2 ⊢
        clear hw2
        refine wpAnyH_done (by kernel_rfl) ?_ _
        go_wp2
        go_meet
        case rel => exact ⟨_, rfl, hH2.2.2.out.1, hH2.2.2.out.2.1, hH2.2.2.out.2.2, M2, neM⟩
  case rest =>
    obtain ⟨t, rfl, H1⟩ := hcut
    clear R HCL HST hS0
    go_wp2_with fail
    go_loopw [7] (fun ix wr => ∃ k : Nat, k ≤ ps.length ∧ ix = .int .i64 (k + 1) ∧ Hid (RowN wr g (n :: ps) ∧ Bz wr N 0 0 ∧ Below N w wr ∧ Bz wr t (lst n (ps.take k)) (grt n (ps.take k)) ∧ N < t ∧ g ≠ t)) (fun i _ => ps.length + 1 - (intOf i).toNat)
    case atStart => exact ⟨0, Nat.zero_le _, rfl, H1⟩
    case round =>
      obtain ⟨k, hk, rfl, RA⟩ := hrel
      clear H1
      by_cases hlt : k < ps.length
      · have k1 : (k : Int) < ps.length := by omega
        have k2 : (0 : Int) ≤ (k : Int) + 1 := by omega
        have hy : (n :: ps)[k + 1]? = some (ps[k]'hlt) := by simp [hlt]
        have HT : Hid (lst n (ps.take (k + 1)) = min (lst n (ps.take k)) (ps[k]'hlt) ∧ grt n (ps.take (k + 1)) = max (grt n (ps.take k)) (ps[k]'hlt)) := by
          unfold Hid
          rw [List.take_succ_eq_append_getElem hlt, lst_app, grt_app]
          exact ⟨rfl, rfl⟩
        generalize ps[k]'hlt = y at *
        generalize lst n (ps.take k) = lo at *
        generalize grt n (ps.take k) = hi at *
        have HY : Hid ((n :: ps)[k + 1]? = some y) := hy
        clear hy
        go_upto_region 7 with fail
        have HCL : Hid (∀ a b : World, (a.cell? ⟨g, k + 1, none⟩ = some (.int .i64 y) ∧ t < a.heap.size ∧ Hid (RowN a g (n :: ps) ∧ Bz a N 0 0 ∧ Below N w a)) → Below a.heap.size a b → (b.cell? ⟨g, k + 1, none⟩ = some (.int .i64 y) ∧ t < b.heap.size ∧ Hid (RowN b g (n :: ps) ∧ Bz b N 0 0 ∧ Below N w b))) := fun a b h hb => by
          have u := h.2.2.out
          exact ⟨(u.1.keep hb) (k + 1) y HY.out, Nat.lt_of_lt_of_le h.2.1 hb.size, u.1.keep hb, u.2.1.keep hb, u.2.2.trans (hb.mono (Nat.le_of_lt u.2.1.1.lt))⟩
        have HST : Hid (∀ (a : World) (q : Nat) (v u : Value), (N < q ∧ g ≠ q) → (a.cell? ⟨g, k + 1, none⟩ = some (.int .i64 y) ∧ t < a.heap.size ∧ Hid (RowN a g (n :: ps) ∧ Bz a N 0 0 ∧ Below N w a)) → (((a.setCell ⟨q, 0, none⟩ v).setCell ⟨q, 1, none⟩ u).cell? ⟨g, k + 1, none⟩ = some (.int .i64 y) ∧ t < ((a.setCell ⟨q, 0, none⟩ v).setCell ⟨q, 1, none⟩ u).heap.size ∧ Hid (RowN ((a.setCell ⟨q, 0, none⟩ v).setCell ⟨q, 1, none⟩ u) g (n :: ps) ∧ Bz ((a.setCell ⟨q, 0, none⟩ v).setCell ⟨q, 1, none⟩ u) N 0 0 ∧ Below N w ((a.setCell ⟨q, 0, none⟩ v).setCell ⟨q, 1, none⟩ u)))) := fun a q v u hq h => by
          have z := h.2.2.out
          have ne : ∀ k j : Nat, (⟨q, j, none⟩ : Addr) ≠ ⟨g, k, none⟩ := fun k j e => hq.2 (congrArg Addr.block e).symm
          have r : RowN ((a.setCell ⟨q, 0, none⟩ v).setCell ⟨q, 1, none⟩ u) g (n :: ps) := fun j m hj => (World.cell?_setCell_other _ _ _ _ (ne j 1)).trans ((World.cell?_setCell_other _ _ _ _ (ne j 0)).trans (z.1 j m hj))
          exact ⟨r (k + 1) y HY.out, by simpa using h.2.1, r, z.2.1.set' (by omega) v u, (z.2.2.setCell (p := ⟨q, 0, none⟩) (show N ≤ q by omega) v).setCell (p := ⟨q, 1, none⟩) (show N ≤ q by omega) u⟩
        refine wp_region_held_drew (S := fun w' => w'.cell? ⟨g, k + 1, none⟩ = some (.int .i64 y) ∧ t < w'.heap.size ∧ Hid (RowN w' g (n :: ps) ∧ Bz w' N 0 0 ∧ Below N w w')) (by kernel_rfl) (HCL.out _ _ ⟨RA.out.1 (k + 1) y HY.out, RA.out.2.2.2.1.1.lt, RA.out.1, RA.out.2.1, RA.out.2.2.1⟩ ((Below.refl _ _).drew)) (fun hH0 => ?_)
        refine wpAnyH_take (i := 1) (oi := ({ dst := some 25, op := Op.move (Operand.tmp 0), type := 59, pos := "ref.go:93", after := #[], guard := none } : Oper)) (v := ?_) rfl (by kernel_rfl) (by kernel_rfl) (by kernel_rfl) (fun _ _ _ h => h) (Or.inl ⟨by rfl, ?_⟩) (by assumption) ?_
        rotate_left
        · (intro wz hSw; (try dsimp only at hSw); go_simp; try with_reducible rfl)
        simp only [Act.put, List.setIfInBounds_toArray, List.set_cons_zero, List.set_cons_succ]
        refine wpAnyH_take (i := 2) (oi := ({ dst := some 26, op := Op.move (Operand.tmp 7), type := 3, pos := "ref.go:93", after := #[], guard := none } : Oper)) (v := ?_) rfl (by kernel_rfl) (by kernel_rfl) (by kernel_rfl) (fun _ _ _ h => h) (Or.inl ⟨by rfl, ?_⟩) (by assumption) ?_
        rotate_left
        · (intro wz hSw; (try dsimp only at hSw); go_simp; try with_reducible rfl)
        simp only [Act.put, List.setIfInBounds_toArray, List.set_cons_zero, List.set_cons_succ]
        refine wpAnyH_take (i := 3) (oi := ({ dst := some 27, op := Op.indexAddr 59 (Operand.tmp 25) (Operand.tmp 26), type := 0, pos := "ref.go:93", after := #[{ on := 1, ground := Ground.data }, { on := 2, ground := Ground.data }], guard := none } : Oper)) (v := ?_) rfl (by kernel_rfl) (by kernel_rfl) (by kernel_rfl) (fun _ _ _ h => h) (Or.inl ⟨by rfl, ?_⟩) (by assumption) ?_
        rotate_left
        · (intro wz hSw; (try dsimp only at hSw); go_simp; try with_reducible rfl)
        simp only [Act.put, List.setIfInBounds_toArray, List.set_cons_zero, List.set_cons_succ]
        refine wpAnyH_take (i := 4) (oi := ({ dst := some 28, op := Op.load 2 (Operand.tmp 27), type := 2, pos := "ref.go:93", after := #[{ on := 3, ground := Ground.data }], guard := none } : Oper)) (v := ?_) rfl (by kernel_rfl) (by kernel_rfl) (by kernel_rfl) (fun _ _ _ h => h) (Or.inl ⟨by rfl, ?_⟩) (by assumption) ?_
        rotate_left
        · (intro wz hSw; (try dsimp only at hSw); go_simp; try with_reducible rfl)
        simp only [Act.put, List.setIfInBounds_toArray, List.set_cons_zero, List.set_cons_succ]
        refine wpAnyH_take (i := 5) (oi := ({ dst := some 29, op := Op.move (Operand.tmp 0), type := 59, pos := "ref.go:93", after := #[], guard := none } : Oper)) (v := ?_) rfl (by kernel_rfl) (by kernel_rfl) (by kernel_rfl) (fun _ _ _ h => h) (Or.inl ⟨by rfl, ?_⟩) (by assumption) ?_
        rotate_left
        · (intro wz hSw; (try dsimp only at hSw); go_simp; try with_reducible rfl)
        simp only [Act.put, List.setIfInBounds_toArray, List.set_cons_zero, List.set_cons_succ]
        refine wpAnyH_take (i := 6) (oi := ({ dst := some 30, op := Op.move (Operand.tmp 7), type := 3, pos := "ref.go:93", after := #[], guard := none } : Oper)) (v := ?_) rfl (by kernel_rfl) (by kernel_rfl) (by kernel_rfl) (fun _ _ _ h => h) (Or.inl ⟨by rfl, ?_⟩) (by assumption) ?_
        rotate_left
        · (intro wz hSw; (try dsimp only at hSw); go_simp; try with_reducible rfl)
        simp only [Act.put, List.setIfInBounds_toArray, List.set_cons_zero, List.set_cons_succ]
        refine wpAnyH_take (i := 7) (oi := ({ dst := some 31, op := Op.indexAddr 59 (Operand.tmp 29) (Operand.tmp 30), type := 0, pos := "ref.go:93", after := #[{ on := 5, ground := Ground.data }, { on := 6, ground := Ground.data }], guard := none } : Oper)) (v := ?_) rfl (by kernel_rfl) (by kernel_rfl) (by kernel_rfl) (fun _ _ _ h => h) (Or.inl ⟨by rfl, ?_⟩) (by assumption) ?_
        rotate_left
        · (intro wz hSw; (try dsimp only at hSw); go_simp; try with_reducible rfl)
        simp only [Act.put, List.setIfInBounds_toArray, List.set_cons_zero, List.set_cons_succ]
        refine wpAnyH_take (i := 8) (oi := ({ dst := some 32, op := Op.load 2 (Operand.tmp 31), type := 2, pos := "ref.go:93", after := #[{ on := 7, ground := Ground.data }], guard := none } : Oper)) (v := ?_) rfl (by kernel_rfl) (by kernel_rfl) (by kernel_rfl) (fun _ _ _ h => h) (Or.inl ⟨by rfl, ?_⟩) (by assumption) ?_
        rotate_left
        · (intro wz hSw; (try dsimp only at hSw); go_simp; try with_reducible rfl)
        simp only [Act.put, List.setIfInBounds_toArray, List.set_cons_zero, List.set_cons_succ]
        refine wpAnyH_take (i := 9) (oi := ({ dst := some 33, op := Op.build 23 #[(0, Operand.tmp 28), (1, Operand.tmp 32)], type := 23, pos := "ref.go:93", after := #[{ on := 4, ground := Ground.data }, { on := 8, ground := Ground.data }], guard := none } : Oper)) (v := ?_) rfl (by kernel_rfl) (by kernel_rfl) (by kernel_rfl) (fun _ _ _ h => h) (Or.inl ⟨by rfl, ?_⟩) (by assumption) ?_
        rotate_left
        · (intro wz hSw; (try dsimp only at hSw); go_simp; try with_reducible rfl)
        simp only [Act.put, List.setIfInBounds_toArray, List.set_cons_zero, List.set_cons_succ]
        have X0 : Bz wr.drew t lo hi := (RA.out.2.2.2.1).keep ((Below.refl _ _).drew)
        obtain ⟨w0, hw0⟩ : ∃ w0, w0 = wr.drew := ⟨_, rfl⟩
        rw [← hw0] at hH0 X0 ⊢
        clear hw0
        refine wpAnyH_ready (rs := [0]) (by kernel_rfl) (by simp) ?_
        refine AllReadyH.cons (o := ({ dst := some 24, op := Op.load 23 (Operand.tmp 6), type := 23, pos := "ref.go:93", after := #[], guard := none } : Oper)) rfl (fun K hK => ?_) AllReadyH.nil
        · have cX0 := X0.1.1
          have cX1 := X0.1.2
          have cX2 := X0.2.1
          have cX3 := X0.2.2
          go_simp
          refine hK.out _ _ hH0 (fun _ => ?_)
          clear hK K cX0 cX1 cX2 cX3
          refine wpAnyH_ready (rs := [10]) (by kernel_rfl) (by simp) ?_
          refine AllReadyH.cons (o := ({ dst := some 34, op := Op.call { callee := Callee.value (Operand.func 22), args := #[Operand.tmp 24, Operand.tmp 33], argTypes := #[23, 23] }, type := 23, pos := "ref.go:93", after := #[{ on := 0, ground := Ground.data }, { on := 9, ground := Ground.data }], guard := none } : Oper)) rfl (fun K hK => ?_) AllReadyH.nil
          · have cX0 := X0.1.1
            have cX1 := X0.1.2
            have cX2 := X0.2.1
            have cX3 := X0.2.2
            go_simp
            go_at_call 22
            refine (bel3 (joinr_any _ _ _ _ _)).mono ?_
            rintro e w1 ⟨rfl, hb1⟩
            have X1 := X0.keep hb1
            refine hK.out _ _ (HCL.out _ _ hH0 hb1) (fun hH1 => ?_)
            clear hK K cX0 cX1 cX2 cX3
            refine wpAnyH_ready (rs := [11]) (by kernel_rfl) (by simp) ?_
            refine AllReadyH.cons (o := ({ dst := none, op := Op.store 23 (Operand.tmp 6) (Operand.tmp 34), type := 0, pos := "ref.go:93", after := #[{ on := 10, ground := Ground.data }, { on := 10, ground := Ground.chain }, { on := 0, ground := Ground.phase }, { on := 1, ground := Ground.phase }, { on := 2, ground := Ground.phase }, { on := 3, ground := Ground.phase }, { on := 4, ground := Ground.phase }, { on := 5, ground := Ground.phase }, { on := 6, ground := Ground.phase }, { on := 7, ground := Ground.phase }, { on := 8, ground := Ground.phase }, { on := 9, ground := Ground.phase }, { on := 10, ground := Ground.phase }], guard := none } : Oper)) rfl (fun K hK => ?_) AllReadyH.nil
            · have cX0 := X1.1.1
              have cX1 := X1.1.2
              have cX2 := X1.2.1
              have cX3 := X1.2.2
              go_simp
              have X2 := X1.wrote (x' := (min lo y)) (y' := (max hi y))
              refine hK.out _ _ (HST.out _ t _ _ RA.out.2.2.2.2 hH1) (fun hH2 => ?_)
              clear hK K cX0 cX1 cX2 cX3
              obtain ⟨w2, hw2⟩ : ∃ w2, w2 = ((w1.setCell ⟨t, 0, none⟩ (.int .i64 (min lo y))).setCell ⟨t, 1, none⟩ (.int .i64 (max hi y))) := ⟨_, rfl⟩
              rw [← hw2] at hH2 X2 ⊢
              clear hw2
              refine wpAnyH_done (by kernel_rfl) ?_ _
              go_wp2_with fail
              go_round
              case rel => exact ⟨k + 1, by omega, by push_cast; rfl, hH2.2.2.out.1, hH2.2.2.out.2.1, hH2.2.2.out.2.2, by rw [HT.out.1, HT.out.2]; exact X2, RA.out.2.2.2.2.1, RA.out.2.2.2.2.2⟩
              case measure => simp [intOf]; omega
      · have k1 : ¬ (k : Int) < ps.length := by omega
        obtain rfl : k = ps.length := by omega
        rw [List.take_length] at RA
        have c0 := RA.out.2.2.2.1.1.1
        have c1 := RA.out.2.2.2.1.1.2
        have d0 := RA.out.2.1.1.1
        have d1 := RA.out.2.1.1.2
        have d2 := RA.out.2.1.2.1
        have d3 := RA.out.2.1.2.2
        have hB := RA.out.2.2.1
        go_wp2_with fail
        clear hk hlt
        refine bodyPost_ret (by simp [results, Try.results46, go_sem, *]; try rfl) rfl ⟨?_, by rw [← HN.out]; exact (hB.setCell (by simp) _).setCell (by simp) _⟩
        rfl
end Go.Proofs.Ytpegiljajlljkaa
