import Derived.Test.YtmhicllhjiglkaaG03
import Derived.Test.YtmhicllhjiglkaaG02
import Derived.Test.YtmhicllhjiglkaaG00
import Derived.Lib.BufferMore
import Derived.Deep.RegionHeld3
namespace Go.Proofs.Ytmhicllhjiglkaa
open Go.RowKit
set_option maxRecDepth 100000 in
set_option maxHeartbeats 16000000 in
theorem branch_V (x : V) (yes : Bool) (w : World) : Calls Try.prog 69 #[.agg #[.int .i64 (up x.s), .bool x.k, .int .i64 x.n, .int .i64 x.lo, .int .i64 x.hi, .int .i64 (up x.p)], .bool yes] w fun e w' => e = .returned (.tuple #[.agg #[.int .i64 (up (branchV x yes).1.s), .bool (branchV x yes).1.k, .int .i64 (branchV x yes).1.n, .int .i64 (branchV x yes).1.lo, .int .i64 (branchV x yes).1.hi, .int .i64 (up (branchV x yes).1.p)], .bool (branchV x yes).2]) ∧ Below w.heap.size w w' := by
  have HR : Hid (someV ⟨branchS x.s yes, brI x.k x.n yes, brN x.k x.n yes, (branchP (x.lo, x.hi) yes).1.1, (branchP (x.lo, x.hi) yes).1.2, branchQ x.p yes⟩ (brOk x.k x.n yes && (branchP (x.lo, x.hi) yes).2) = branchV x yes) := rfl
  generalize branchV x yes = r at *
  have c1 := fun w => kbr_any x.k x.n yes w
  have c2 := fun w => branch_any (x.lo, x.hi) yes w
  have c3 := fun w => bel0 (sbranch_any (up x.s) yes w)
  have c4 := fun w => bel0 (pbranch_any (up x.p) yes w)
  rw [low_up] at c3 c4
  dsimp only at c2
  generalize branchP (x.lo, x.hi) yes = m at *
  generalize brOk x.k x.n yes = t1 at *
  generalize brI x.k x.n yes = mI at *
  generalize brN x.k x.n yes = mN at *
  generalize branchS x.s yes = gs at *
  generalize branchQ x.p yes = gp at *
  have x0 : Br ((w.alloc (.cells #[.int .i64 (up x.s), .bool x.k, .int .i64 x.n, .int .i64 x.lo, .int .i64 x.hi, .int .i64 (up x.p)] 53)).alloc (.cells #[.int .i64 0, .bool false, .int .i64 0, .int .i64 0, .int .i64 0, .int .i64 0] 53)) (w.heap.size) (up x.s) x.k x.n x.lo x.hi (up x.p) := ((Br.new w (up x.s) x.k x.n x.lo x.hi (up x.p) 53)).keep ((Below.refl _ _).alloc (Nat.le_refl _) _)
  have x1 : Br ((w.alloc (.cells #[.int .i64 (up x.s), .bool x.k, .int .i64 x.n, .int .i64 x.lo, .int .i64 x.hi, .int .i64 (up x.p)] 53)).alloc (.cells #[.int .i64 0, .bool false, .int .i64 0, .int .i64 0, .int .i64 0, .int .i64 0] 53)) (w.heap.size + 1) 0 false 0 0 0 0 := (by simpa using Br.new (w.alloc (.cells #[.int .i64 (up x.s), .bool x.k, .int .i64 x.n, .int .i64 x.lo, .int .i64 x.hi, .int .i64 (up x.p)] 53)) 0 false 0 0 0 0 53 : Br ((w.alloc (.cells #[.int .i64 (up x.s), .bool x.k, .int .i64 x.n, .int .i64 x.lo, .int .i64 x.hi, .int .i64 (up x.p)] 53)).alloc (.cells #[.int .i64 0, .bool false, .int .i64 0, .int .i64 0, .int .i64 0, .int .i64 0] 53)) (w.heap.size + 1) 0 false 0 0 0 0)
  have xf : Fz ((w.alloc (.cells #[.int .i64 (up x.s), .bool x.k, .int .i64 x.n, .int .i64 x.lo, .int .i64 x.hi, .int .i64 (up x.p)] 53)).alloc (.cells #[.int .i64 0, .bool false, .int .i64 0, .int .i64 0, .int .i64 0, .int .i64 0] 53)) (w.heap.size + 1) := by simpa using Fz.new (w.alloc (.cells #[.int .i64 (up x.s), .bool x.k, .int .i64 x.n, .int .i64 x.lo, .int .i64 x.hi, .int .i64 (up x.p)] 53)) 0 false 0 0 0 0 53
  have xb : Below w.heap.size w ((w.alloc (.cells #[.int .i64 (up x.s), .bool x.k, .int .i64 x.n, .int .i64 x.lo, .int .i64 x.hi, .int .i64 (up x.p)] 53)).alloc (.cells #[.int .i64 0, .bool false, .int .i64 0, .int .i64 0, .int .i64 0, .int .i64 0] 53)) := (by repeat (first | exact Below.refl _ _ | (refine Below.drew ?_) | (refine below_drewN ?_ _) | (refine Below.setCell ?_ (by first | omega | (simp; done) | (simp; omega)) _) | (refine Below.alloc ?_ (by first | omega | (simp; done) | (simp; omega)) _) | (refine Below.trans ?_ (Below.mono (by assumption) (by first | omega | (simp; done) | (simp; omega))))))
  go_enter Try.func69, Try.ntmps69
  go_upto_region 1 with fail
  go_name_world W hW
  rw [hW] at x0 x1 xf xb
  clear hW
  obtain ⟨N, hN⟩ : ∃ N, N = w.heap.size := ⟨_, rfl⟩
  rw [← hN] at x0 x1 xf xb ⊢
  have HN : Hid (N = w.heap.size) := hN
  clear hN
  have HA := hide (And.intro x0 (And.intro x1 (And.intro xf xb)))
  clear x0 x1 xf xb
  have a0 := HA.out.1.c0
  have a1 := HA.out.1.c1
  have a2 := HA.out.1.c2
  have a3 := HA.out.1.c3
  have a4 := HA.out.1.c4
  have a5 := HA.out.1.c5
  go_upto_region 2 with (go_at_call 109; refine (c1 _).mono ?_; rintro e wK ⟨rfl, hK⟩)
  go_name_world W2 hW2
  have HB : Hid (Br W2 N (up x.s) x.k x.n x.lo x.hi (up x.p) ∧ Br W2 (N + 1) 0 false 0 0 0 0 ∧ Fz W2 (N + 1) ∧ Below N w W2 ∧ K2 W2 wK.heap.size mI mN) := by
    rw [← hW2]
    have k0 := HA.out.1.keep hK
    have k2 := HA.out.2.1.keep hK
    have k3 := HA.out.2.2.1.keep HA.out.2.1.lt hK
    have k4 := HA.out.2.2.2.trans (hK.mono (Nat.le_of_lt HA.out.1.lt))
    exact ⟨k0.keep ((Below.refl _ _).alloc (Nat.le_refl _) _), k2.keep ((Below.refl _ _).alloc (Nat.le_refl _) _), k3.keep k2.lt ((Below.refl _ _).alloc (Nat.le_refl _) _), k4.alloc (Nat.le_of_lt k0.lt) _, K2.new _ _ _ _⟩
  clear hW2 hK HA c1 a0 a1 a2 a3 a4 a5
  generalize wK.heap.size = T6 at *
  have a0 := HB.out.1.c0
  have a1 := HB.out.1.c1
  have a2 := HB.out.1.c2
  have a3 := HB.out.1.c3
  have a4 := HB.out.1.c4
  have a5 := HB.out.1.c5
  go_upto_region 3 with (go_at_call 110; refine (c2 _).mono ?_; rintro e wK ⟨rfl, hK⟩)
  go_name_world W3 hW3
  have HC : Hid (Br W3 N (up x.s) x.k x.n x.lo x.hi (up x.p) ∧ Br W3 (N + 1) 0 false 0 0 0 0 ∧ Fz W3 (N + 1) ∧ Below N w W3 ∧ K2 W3 T6 mI mN ∧ S2 W3 wK.heap.size m.1.1 m.1.2) := by
    rw [← hW3]
    have k0 := HB.out.1.keep hK
    have k2 := HB.out.2.1.keep hK
    have k3 := HB.out.2.2.1.keep HB.out.2.1.lt hK
    have k4 := HB.out.2.2.2.1.trans (hK.mono (Nat.le_of_lt HB.out.1.lt))
    have k5 := HB.out.2.2.2.2.keep hK
    exact ⟨k0.keep ((Below.refl _ _).alloc (Nat.le_refl _) _), k2.keep ((Below.refl _ _).alloc (Nat.le_refl _) _), k3.keep k2.lt ((Below.refl _ _).alloc (Nat.le_refl _) _), k4.alloc (Nat.le_of_lt k0.lt) _, k5.keep ((Below.refl _ _).alloc (Nat.le_refl _) _), S2.new _ _ _ _⟩
  clear hW3 hK HB c2 a0 a1 a2 a3 a4 a5
  generalize wK.heap.size = T8 at *
  have HCL : Hid (∀ a b : World, (a.cell? ⟨N, 0, none⟩ = some (.int .i64 (up x.s)) ∧ a.cell? ⟨N, 5, none⟩ = some (.int .i64 (up x.p)) ∧ a.cell? ⟨T6, 0, none⟩ = some (.bool mI) ∧ a.cell? ⟨T6, 1, none⟩ = some (.int .i64 mN) ∧ a.cell? ⟨T8, 0, none⟩ = some (.int .i64 m.1.1) ∧ a.cell? ⟨T8, 1, none⟩ = some (.int .i64 m.1.2) ∧ Hid (Br a N (up x.s) x.k x.n x.lo x.hi (up x.p) ∧ Br a (N + 1) 0 false 0 0 0 0 ∧ Fz a (N + 1) ∧ Below N w a ∧ K2 a T6 mI mN ∧ S2 a T8 m.1.1 m.1.2)) → Below a.heap.size a b → (b.cell? ⟨N, 0, none⟩ = some (.int .i64 (up x.s)) ∧ b.cell? ⟨N, 5, none⟩ = some (.int .i64 (up x.p)) ∧ b.cell? ⟨T6, 0, none⟩ = some (.bool mI) ∧ b.cell? ⟨T6, 1, none⟩ = some (.int .i64 mN) ∧ b.cell? ⟨T8, 0, none⟩ = some (.int .i64 m.1.1) ∧ b.cell? ⟨T8, 1, none⟩ = some (.int .i64 m.1.2) ∧ Hid (Br b N (up x.s) x.k x.n x.lo x.hi (up x.p) ∧ Br b (N + 1) 0 false 0 0 0 0 ∧ Fz b (N + 1) ∧ Below N w b ∧ K2 b T6 mI mN ∧ S2 b T8 m.1.1 m.1.2))) := fun a b h hb => by
    have y9 := (h.2.2.2.2.2.2).out
    have z9 : Br b N (up x.s) x.k x.n x.lo x.hi (up x.p) ∧ Br b (N + 1) 0 false 0 0 0 0 ∧ Fz b (N + 1) ∧ Below N w b ∧ K2 b T6 mI mN ∧ S2 b T8 m.1.1 m.1.2 := ⟨y9.1.keep hb, y9.2.1.keep hb, y9.2.2.1.keep y9.2.1.lt hb, y9.2.2.2.1.trans (hb.mono (Nat.le_of_lt y9.1.lt)), y9.2.2.2.2.1.keep hb, y9.2.2.2.2.2.keep hb⟩
    exact ⟨z9.1.c0, z9.1.c5, z9.2.2.2.2.1.1, z9.2.2.2.2.1.2, z9.2.2.2.2.2.1, z9.2.2.2.2.2.2, z9⟩
  have HPUT : Hid (∀ (a : World) (q : Nat) (t1 t2 t3 t4 t5 t6 : Value), ((N + 1) < q ∧ T6 < q ∧ T8 < q) → (a.cell? ⟨N, 0, none⟩ = some (.int .i64 (up x.s)) ∧ a.cell? ⟨N, 5, none⟩ = some (.int .i64 (up x.p)) ∧ a.cell? ⟨T6, 0, none⟩ = some (.bool mI) ∧ a.cell? ⟨T6, 1, none⟩ = some (.int .i64 mN) ∧ a.cell? ⟨T8, 0, none⟩ = some (.int .i64 m.1.1) ∧ a.cell? ⟨T8, 1, none⟩ = some (.int .i64 m.1.2) ∧ Hid (Br a N (up x.s) x.k x.n x.lo x.hi (up x.p) ∧ Br a (N + 1) 0 false 0 0 0 0 ∧ Fz a (N + 1) ∧ Below N w a ∧ K2 a T6 mI mN ∧ S2 a T8 m.1.1 m.1.2)) → ((st6 a q t1 t2 t3 t4 t5 t6).cell? ⟨N, 0, none⟩ = some (.int .i64 (up x.s)) ∧ (st6 a q t1 t2 t3 t4 t5 t6).cell? ⟨N, 5, none⟩ = some (.int .i64 (up x.p)) ∧ (st6 a q t1 t2 t3 t4 t5 t6).cell? ⟨T6, 0, none⟩ = some (.bool mI) ∧ (st6 a q t1 t2 t3 t4 t5 t6).cell? ⟨T6, 1, none⟩ = some (.int .i64 mN) ∧ (st6 a q t1 t2 t3 t4 t5 t6).cell? ⟨T8, 0, none⟩ = some (.int .i64 m.1.1) ∧ (st6 a q t1 t2 t3 t4 t5 t6).cell? ⟨T8, 1, none⟩ = some (.int .i64 m.1.2) ∧ Hid (Br (st6 a q t1 t2 t3 t4 t5 t6) N (up x.s) x.k x.n x.lo x.hi (up x.p) ∧ Br (st6 a q t1 t2 t3 t4 t5 t6) (N + 1) 0 false 0 0 0 0 ∧ Fz (st6 a q t1 t2 t3 t4 t5 t6) (N + 1) ∧ Below N w (st6 a q t1 t2 t3 t4 t5 t6) ∧ K2 (st6 a q t1 t2 t3 t4 t5 t6) T6 mI mN ∧ S2 (st6 a q t1 t2 t3 t4 t5 t6) T8 m.1.1 m.1.2))) := fun a q t1 t2 t3 t4 t5 t6 hq h => by
    have y9 := (h.2.2.2.2.2.2).out
    have z9 : Br (st6 a q t1 t2 t3 t4 t5 t6) N (up x.s) x.k x.n x.lo x.hi (up x.p) ∧ Br (st6 a q t1 t2 t3 t4 t5 t6) (N + 1) 0 false 0 0 0 0 ∧ Fz (st6 a q t1 t2 t3 t4 t5 t6) (N + 1) ∧ Below N w (st6 a q t1 t2 t3 t4 t5 t6) ∧ K2 (st6 a q t1 t2 t3 t4 t5 t6) T6 mI mN ∧ S2 (st6 a q t1 t2 t3 t4 t5 t6) T8 m.1.1 m.1.2 := ⟨y9.1.put (by omega) _ _ _ _ _ _, y9.2.1.put (by omega) _ _ _ _ _ _, y9.2.2.1.put _ _ _ _ _ _, st6_below y9.2.2.2.1 _ (by omega) _ _ _ _ _ _, y9.2.2.2.2.1.put (by omega) _ _ _ _ _ _, y9.2.2.2.2.2.put (by omega) _ _ _ _ _ _⟩
    exact ⟨z9.1.c0, z9.1.c5, z9.2.2.2.2.1.1, z9.2.2.2.2.1.2, z9.2.2.2.2.2.1, z9.2.2.2.2.2.2, z9⟩
  have hS0 : W3.cell? ⟨N, 0, none⟩ = some (.int .i64 (up x.s)) ∧ W3.cell? ⟨N, 5, none⟩ = some (.int .i64 (up x.p)) ∧ W3.cell? ⟨T6, 0, none⟩ = some (.bool mI) ∧ W3.cell? ⟨T6, 1, none⟩ = some (.int .i64 mN) ∧ W3.cell? ⟨T8, 0, none⟩ = some (.int .i64 m.1.1) ∧ W3.cell? ⟨T8, 1, none⟩ = some (.int .i64 m.1.2) ∧ Hid (Br W3 N (up x.s) x.k x.n x.lo x.hi (up x.p) ∧ Br W3 (N + 1) 0 false 0 0 0 0 ∧ Fz W3 (N + 1) ∧ Below N w W3 ∧ K2 W3 T6 mI mN ∧ S2 W3 T8 m.1.1 m.1.2) := ⟨HC.out.1.c0, HC.out.1.c5, HC.out.2.2.2.2.1.1, HC.out.2.2.2.2.1.2, HC.out.2.2.2.2.2.1, HC.out.2.2.2.2.2.2, HC.out⟩
  go_cut [10] (fun vb wy => ∃ q, vb = .pointer (some ⟨q, 0, none⟩) ∧ Hid (Br wy q (up gs) mI mN m.1.1 m.1.2 (up gp) ∧ Br wy (N + 1) 0 false 0 0 0 0 ∧ Fz wy (N + 1) ∧ Below N w wy))
  case first =>
    refine wp_region_held_drew (S := fun w' => w'.cell? ⟨N, 0, none⟩ = some (.int .i64 (up x.s)) ∧ w'.cell? ⟨N, 5, none⟩ = some (.int .i64 (up x.p)) ∧ w'.cell? ⟨T6, 0, none⟩ = some (.bool mI) ∧ w'.cell? ⟨T6, 1, none⟩ = some (.int .i64 mN) ∧ w'.cell? ⟨T8, 0, none⟩ = some (.int .i64 m.1.1) ∧ w'.cell? ⟨T8, 1, none⟩ = some (.int .i64 m.1.2) ∧ Hid (Br w' N (up x.s) x.k x.n x.lo x.hi (up x.p) ∧ Br w' (N + 1) 0 false 0 0 0 0 ∧ Fz w' (N + 1) ∧ Below N w w' ∧ K2 w' T6 mI mN ∧ S2 w' T8 m.1.1 m.1.2)) (by kernel_rfl) (HCL.out _ _ hS0 ((Below.refl _ _).drew)) (fun hH0 => ?_)
    obtain ⟨w0, hw0⟩ : ∃ w0, w0 = W3.drew := ⟨_, rfl⟩
    rw [← hw0] at hH0 ⊢
    clear hw0
    refine wpAnyH_take (i := 0) (oi := ({ dst := some 25, op := Op.fieldAddr 53 (Operand.tmp 2) 0, type := 0, pos := _, after := _, guard := _ } : Oper)) (v := ?_) rfl (by kernel_rfl) (by kernel_rfl) (by kernel_rfl) (fun _ _ _ h => h) (Or.inl ⟨by rfl, ?_⟩) (by assumption) ?_
    rotate_left
    · (intro wz hSw; (try dsimp only at hSw); go_simp; try with_reducible rfl)
    simp only [Act.put, List.setIfInBounds_toArray, List.set_cons_zero, List.set_cons_succ]
    refine wpAnyH_take (i := 1) (oi := ({ dst := some 26, op := Op.load 3 (Operand.tmp 25), type := 3, pos := _, after := _, guard := _ } : Oper)) (v := ?_) rfl (by kernel_rfl) (by kernel_rfl) (by kernel_rfl) (fun _ _ _ h => h) (Or.inl ⟨by rfl, ?_⟩) (by assumption) ?_
    rotate_left
    · (intro wz hSw; (try dsimp only at hSw); go_simp; try with_reducible rfl)
    simp only [Act.put, List.setIfInBounds_toArray, List.set_cons_zero, List.set_cons_succ]
    refine wpAnyH_take (i := 2) (oi := ({ dst := some 27, op := Op.move (Operand.tmp 1), type := 4, pos := _, after := _, guard := _ } : Oper)) (v := ?_) rfl (by kernel_rfl) (by kernel_rfl) (by kernel_rfl) (fun _ _ _ h => h) (Or.inl ⟨by rfl, ?_⟩) (by assumption) ?_
    rotate_left
    · (intro wz hSw; (try dsimp only at hSw); go_simp; try with_reducible rfl)
    simp only [Act.put, List.setIfInBounds_toArray, List.set_cons_zero, List.set_cons_succ]
    refine wpAnyH_take (i := 4) (oi := ({ dst := some 29, op := Op.load 50 (Operand.tmp 6), type := 50, pos := _, after := _, guard := _ } : Oper)) (v := ?_) rfl (by kernel_rfl) (by kernel_rfl) (by kernel_rfl) (fun _ _ _ h => h) (Or.inl ⟨by rfl, ?_⟩) (by assumption) ?_
    rotate_left
    · (intro wz hSw; (try dsimp only at hSw); go_simp; try with_reducible rfl)
    simp only [Act.put, List.setIfInBounds_toArray, List.set_cons_zero, List.set_cons_succ]
    refine wpAnyH_take (i := 5) (oi := ({ dst := some 30, op := Op.load 51 (Operand.tmp 8), type := 51, pos := _, after := _, guard := _ } : Oper)) (v := ?_) rfl (by kernel_rfl) (by kernel_rfl) (by kernel_rfl) (fun _ _ _ h => h) (Or.inl ⟨by rfl, ?_⟩) (by assumption) ?_
    rotate_left
    · (intro wz hSw; (try dsimp only at hSw); go_simp; try with_reducible rfl)
    simp only [Act.put, List.setIfInBounds_toArray, List.set_cons_zero, List.set_cons_succ]
    refine wpAnyH_take (i := 6) (oi := ({ dst := some 31, op := Op.fieldAddr 53 (Operand.tmp 2) 3, type := 0, pos := _, after := _, guard := _ } : Oper)) (v := ?_) rfl (by kernel_rfl) (by kernel_rfl) (by kernel_rfl) (fun _ _ _ h => h) (Or.inl ⟨by rfl, ?_⟩) (by assumption) ?_
    rotate_left
    · (intro wz hSw; (try dsimp only at hSw); go_simp; try with_reducible rfl)
    simp only [Act.put, List.setIfInBounds_toArray, List.set_cons_zero, List.set_cons_succ]
    refine wpAnyH_take (i := 7) (oi := ({ dst := some 32, op := Op.load 3 (Operand.tmp 31), type := 3, pos := _, after := _, guard := _ } : Oper)) (v := ?_) rfl (by kernel_rfl) (by kernel_rfl) (by kernel_rfl) (fun _ _ _ h => h) (Or.inl ⟨by rfl, ?_⟩) (by assumption) ?_
    rotate_left
    · (intro wz hSw; (try dsimp only at hSw); go_simp; try with_reducible rfl)
    simp only [Act.put, List.setIfInBounds_toArray, List.set_cons_zero, List.set_cons_succ]
    refine wpAnyH_take (i := 8) (oi := ({ dst := some 33, op := Op.move (Operand.tmp 1), type := 4, pos := _, after := _, guard := _ } : Oper)) (v := ?_) rfl (by kernel_rfl) (by kernel_rfl) (by kernel_rfl) (fun _ _ _ h => h) (Or.inl ⟨by rfl, ?_⟩) (by assumption) ?_
    rotate_left
    · (intro wz hSw; (try dsimp only at hSw); go_simp; try with_reducible rfl)
    simp only [Act.put, List.setIfInBounds_toArray, List.set_cons_zero, List.set_cons_succ]
    refine wpAnyH_ready (rs := [3, 11]) (by kernel_rfl) (by simp) ?_
    refine AllReadyH.cons (o := ({ dst := some 28, op := Op.call { callee := Callee.value (Operand.func 111), args := #[Operand.tmp 26, Operand.tmp 27], argTypes := #[3, 4] }, type := 3, pos := _, after := _, guard := _ } : Oper)) rfl (fun K hK => ?_) (AllReadyH.cons (o := ({ dst := some 10, op := Op.alloc 53, type := 0, pos := _, after := _, guard := _ } : Oper)) rfl (fun K hK => ?_) AllReadyH.nil)
    · go_simp
      go_at_call 111
      refine (c3 _).mono ?_
      rintro e w1 ⟨rfl, hb1⟩
      refine hK.out _ _ (HCL.out _ _ hH0 hb1) (fun hH1 => ?_)
      clear hK K
      refine wpAnyH_ready (rs := [9, 11]) (by kernel_rfl) (by simp) ?_
      refine AllReadyH.cons (o := ({ dst := some 34, op := Op.call { callee := Callee.value (Operand.func 112), args := #[Operand.tmp 32, Operand.tmp 33], argTypes := #[3, 4] }, type := 3, pos := _, after := _, guard := _ } : Oper)) rfl (fun K hK => ?_) (AllReadyH.cons (o := ({ dst := some 10, op := Op.alloc 53, type := 0, pos := _, after := _, guard := _ } : Oper)) rfl (fun K hK => ?_) AllReadyH.nil)
      · go_simp
        go_at_call 112
        refine (c4 _).mono ?_
        rintro e w2 ⟨rfl, hb2⟩
        refine hK.out _ _ (HCL.out _ _ hH1 hb2) (fun hH2 => ?_)
        clear hK K
        refine wpAnyH_take (i := 10) (oi := ({ dst := some 35, op := Op.build 53 #[(0, Operand.tmp 28), (1, Operand.tmp 29), (2, Operand.tmp 30), (3, Operand.tmp 34)], type := 53, pos := _, after := _, guard := _ } : Oper)) (v := ?_) rfl (by kernel_rfl) (by kernel_rfl) (by kernel_rfl) (fun _ _ _ h => h) (Or.inl ⟨by rfl, ?_⟩) (by assumption) ?_
        rotate_left
        · (intro wz hSw; (try dsimp only at hSw); go_simp; try with_reducible rfl)
        simp only [Act.put, List.setIfInBounds_toArray, List.set_cons_zero, List.set_cons_succ]
        refine wpAnyH_ready (rs := [11]) (by kernel_rfl) (by simp) ?_
        refine AllReadyH.cons (o := ({ dst := some 10, op := Op.alloc 53, type := 0, pos := _, after := _, guard := _ } : Oper)) rfl (fun K hK => ?_) AllReadyH.nil
        · go_simp
          have hb3 : Below w2.heap.size w2 (w2.alloc (.cells #[.int .i64 0, .bool false, .int .i64 0, .int .i64 0, .int .i64 0, .int .i64 0] 53)) := (Below.refl _ _).alloc (Nat.le_refl _) _
          have M3 := Br.new w2 0 false 0 0 0 0 53
          have G3 := Fz.new w2 0 false 0 0 0 0 53
          have neM : (N + 1) < w2.heap.size ∧ T6 < w2.heap.size ∧ T8 < w2.heap.size := ⟨(hH2.2.2.2.2.2.2).out.2.1.lt, (hH2.2.2.2.2.2.2).out.2.2.2.2.1.lt, (hH2.2.2.2.2.2.2).out.2.2.2.2.2.lt⟩
          refine hK.out _ _ (HCL.out _ _ hH2 hb3) (fun hH3 => ?_)
          clear hK K
          obtain ⟨w3, hw3⟩ : ∃ w3, w3 = (w2.alloc (.cells #[.int .i64 0, .bool false, .int .i64 0, .int .i64 0, .int .i64 0, .int .i64 0] 53)) := ⟨_, rfl⟩
          rw [← hw3] at hH3 M3 G3 ⊢
          clear hw3 hb3
          generalize w2.heap.size = kM at *
          refine wpAnyH_ready (rs := [12]) (by kernel_rfl) (by simp) ?_
          refine AllReadyH.cons (o := ({ dst := none, op := Op.store 53 (Operand.tmp 10) (Operand.tmp 35), type := 0, pos := _, after := _, guard := _ } : Oper)) rfl (fun K hK => ?_) AllReadyH.nil
          · have c0 := M3.c0
            have c1 := M3.c1
            have c2 := M3.c2
            have c3 := M3.c3
            have c4 := M3.c4
            have c5 := M3.c5
            have f0 := G3.f0
            have f1 := G3.f1
            have f2 := G3.f2
            have f3 := G3.f3
            have f4 := G3.f4
            have f5 := G3.f5
            go_simp
            have M4 := M3.wrote (up gs) mI mN m.1.1 m.1.2 (up gp)
            refine hK.out _ _ (HPUT.out _ kM _ _ _ _ _ _ neM hH3) (fun hH4 => ?_)
            clear hK K c0 c1 c2 c3 c4 c5 f0 f1 f2 f3 f4 f5
            refine wpAnyH_done (by kernel_rfl) ?_ _
            go_wp2
            go_meet
            case rel => exact ⟨_, rfl, M4, (hH4.2.2.2.2.2.2).out.2.1, (hH4.2.2.2.2.2.2).out.2.2.1, (hH4.2.2.2.2.2.2).out.2.2.2.1⟩
      · go_simp
        have hb2 : Below w1.heap.size w1 (w1.alloc (.cells #[.int .i64 0, .bool false, .int .i64 0, .int .i64 0, .int .i64 0, .int .i64 0] 53)) := (Below.refl _ _).alloc (Nat.le_refl _) _
        have M2 := Br.new w1 0 false 0 0 0 0 53
        have G2 := Fz.new w1 0 false 0 0 0 0 53
        have neM : (N + 1) < w1.heap.size ∧ T6 < w1.heap.size ∧ T8 < w1.heap.size := ⟨(hH1.2.2.2.2.2.2).out.2.1.lt, (hH1.2.2.2.2.2.2).out.2.2.2.2.1.lt, (hH1.2.2.2.2.2.2).out.2.2.2.2.2.lt⟩
        refine hK.out _ _ (HCL.out _ _ hH1 hb2) (fun hH2 => ?_)
        clear hK K
        obtain ⟨w2, hw2⟩ : ∃ w2, w2 = (w1.alloc (.cells #[.int .i64 0, .bool false, .int .i64 0, .int .i64 0, .int .i64 0, .int .i64 0] 53)) := ⟨_, rfl⟩
        rw [← hw2] at hH2 M2 G2 ⊢
        clear hw2 hb2
        generalize w1.heap.size = kM at *
        refine wpAnyH_ready (rs := [9]) (by kernel_rfl) (by simp) ?_
        refine AllReadyH.cons (o := ({ dst := some 34, op := Op.call { callee := Callee.value (Operand.func 112), args := #[Operand.tmp 32, Operand.tmp 33], argTypes := #[3, 4] }, type := 3, pos := _, after := _, guard := _ } : Oper)) rfl (fun K hK => ?_) AllReadyH.nil
        · go_simp
          go_at_call 112
          refine (c4 _).mono ?_
          rintro e w3 ⟨rfl, hb3⟩
          have M3 := M2.keep hb3
          have G3 := G2.keep M2.lt hb3
          refine hK.out _ _ (HCL.out _ _ hH2 hb3) (fun hH3 => ?_)
          clear hK K
          refine wpAnyH_take (i := 10) (oi := ({ dst := some 35, op := Op.build 53 #[(0, Operand.tmp 28), (1, Operand.tmp 29), (2, Operand.tmp 30), (3, Operand.tmp 34)], type := 53, pos := _, after := _, guard := _ } : Oper)) (v := ?_) rfl (by kernel_rfl) (by kernel_rfl) (by kernel_rfl) (fun _ _ _ h => h) (Or.inl ⟨by rfl, ?_⟩) (by assumption) ?_
          rotate_left
          · (intro wz hSw; (try dsimp only at hSw); go_simp; try with_reducible rfl)
          simp only [Act.put, List.setIfInBounds_toArray, List.set_cons_zero, List.set_cons_succ]
          refine wpAnyH_ready (rs := [12]) (by kernel_rfl) (by simp) ?_
          refine AllReadyH.cons (o := ({ dst := none, op := Op.store 53 (Operand.tmp 10) (Operand.tmp 35), type := 0, pos := _, after := _, guard := _ } : Oper)) rfl (fun K hK => ?_) AllReadyH.nil
          · have c0 := M3.c0
            have c1 := M3.c1
            have c2 := M3.c2
            have c3 := M3.c3
            have c4 := M3.c4
            have c5 := M3.c5
            have f0 := G3.f0
            have f1 := G3.f1
            have f2 := G3.f2
            have f3 := G3.f3
            have f4 := G3.f4
            have f5 := G3.f5
            go_simp
            have M4 := M3.wrote (up gs) mI mN m.1.1 m.1.2 (up gp)
            refine hK.out _ _ (HPUT.out _ kM _ _ _ _ _ _ neM hH3) (fun hH4 => ?_)
            clear hK K c0 c1 c2 c3 c4 c5 f0 f1 f2 f3 f4 f5
            refine wpAnyH_done (by kernel_rfl) ?_ _
            go_wp2
            go_meet
            case rel => exact ⟨_, rfl, M4, (hH4.2.2.2.2.2.2).out.2.1, (hH4.2.2.2.2.2.2).out.2.2.1, (hH4.2.2.2.2.2.2).out.2.2.2.1⟩
    · go_simp
      have hb1 : Below w0.heap.size w0 (w0.alloc (.cells #[.int .i64 0, .bool false, .int .i64 0, .int .i64 0, .int .i64 0, .int .i64 0] 53)) := (Below.refl _ _).alloc (Nat.le_refl _) _
      have M1 := Br.new w0 0 false 0 0 0 0 53
      have G1 := Fz.new w0 0 false 0 0 0 0 53
      have neM : (N + 1) < w0.heap.size ∧ T6 < w0.heap.size ∧ T8 < w0.heap.size := ⟨(hH0.2.2.2.2.2.2).out.2.1.lt, (hH0.2.2.2.2.2.2).out.2.2.2.2.1.lt, (hH0.2.2.2.2.2.2).out.2.2.2.2.2.lt⟩
      refine hK.out _ _ (HCL.out _ _ hH0 hb1) (fun hH1 => ?_)
      clear hK K
      obtain ⟨w1, hw1⟩ : ∃ w1, w1 = (w0.alloc (.cells #[.int .i64 0, .bool false, .int .i64 0, .int .i64 0, .int .i64 0, .int .i64 0] 53)) := ⟨_, rfl⟩
      rw [← hw1] at hH1 M1 G1 ⊢
      clear hw1 hb1
      generalize w0.heap.size = kM at *
      refine wpAnyH_ready (rs := [3]) (by kernel_rfl) (by simp) ?_
      refine AllReadyH.cons (o := ({ dst := some 28, op := Op.call { callee := Callee.value (Operand.func 111), args := #[Operand.tmp 26, Operand.tmp 27], argTypes := #[3, 4] }, type := 3, pos := _, after := _, guard := _ } : Oper)) rfl (fun K hK => ?_) AllReadyH.nil
      · go_simp
        go_at_call 111
        refine (c3 _).mono ?_
        rintro e w2 ⟨rfl, hb2⟩
        have M2 := M1.keep hb2
        have G2 := G1.keep M1.lt hb2
        refine hK.out _ _ (HCL.out _ _ hH1 hb2) (fun hH2 => ?_)
        clear hK K
        refine wpAnyH_ready (rs := [9]) (by kernel_rfl) (by simp) ?_
        refine AllReadyH.cons (o := ({ dst := some 34, op := Op.call { callee := Callee.value (Operand.func 112), args := #[Operand.tmp 32, Operand.tmp 33], argTypes := #[3, 4] }, type := 3, pos := _, after := _, guard := _ } : Oper)) rfl (fun K hK => ?_) AllReadyH.nil
        · go_simp
          go_at_call 112
          refine (c4 _).mono ?_
          rintro e w3 ⟨rfl, hb3⟩
          have M3 := M2.keep hb3
          have G3 := G2.keep M2.lt hb3
          refine hK.out _ _ (HCL.out _ _ hH2 hb3) (fun hH3 => ?_)
          clear hK K
          refine wpAnyH_take (i := 10) (oi := ({ dst := some 35, op := Op.build 53 #[(0, Operand.tmp 28), (1, Operand.tmp 29), (2, Operand.tmp 30), (3, Operand.tmp 34)], type := 53, pos := _, after := _, guard := _ } : Oper)) (v := ?_) rfl (by kernel_rfl) (by kernel_rfl) (by kernel_rfl) (fun _ _ _ h => h) (Or.inl ⟨by rfl, ?_⟩) (by assumption) ?_
          rotate_left
          · (intro wz hSw; (try dsimp only at hSw); go_simp; try with_reducible rfl)
          simp only [Act.put, List.setIfInBounds_toArray, List.set_cons_zero, List.set_cons_succ]
          refine wpAnyH_ready (rs := [12]) (by kernel_rfl) (by simp) ?_
          refine AllReadyH.cons (o := ({ dst := none, op := Op.store 53 (Operand.tmp 10) (Operand.tmp 35), type := 0, pos := _, after := _, guard := _ } : Oper)) rfl (fun K hK => ?_) AllReadyH.nil
          · have c0 := M3.c0
            have c1 := M3.c1
            have c2 := M3.c2
            have c3 := M3.c3
            have c4 := M3.c4
            have c5 := M3.c5
            have f0 := G3.f0
            have f1 := G3.f1
            have f2 := G3.f2
            have f3 := G3.f3
            have f4 := G3.f4
            have f5 := G3.f5
            go_simp
            have M4 := M3.wrote (up gs) mI mN m.1.1 m.1.2 (up gp)
            refine hK.out _ _ (HPUT.out _ kM _ _ _ _ _ _ neM hH3) (fun hH4 => ?_)
            clear hK K c0 c1 c2 c3 c4 c5 f0 f1 f2 f3 f4 f5
            refine wpAnyH_done (by kernel_rfl) ?_ _
            go_wp2
            go_meet
            case rel => exact ⟨_, rfl, M4, (hH4.2.2.2.2.2.2).out.2.1, (hH4.2.2.2.2.2.2).out.2.2.1, (hH4.2.2.2.2.2.2).out.2.2.2.1⟩
  case rest =>
    obtain ⟨q, rfl, HD⟩ := hcut
    clear hS0 HCL HPUT HC c3 c4
    have a0 := HD.out.1.c0
    have a1 := HD.out.1.c1
    have a2 := HD.out.1.c2
    have a3 := HD.out.1.c3
    have a4 := HD.out.1.c4
    have a5 := HD.out.1.c5
    have c5 := fun w => some_V ⟨gs, mI, mN, m.1.1, m.1.2, gp⟩ (t1 && m.2) w
    rw [HR.out] at c5
    cases t1
    · go_wp2_with (go_at_call 113; refine (c5 _).mono ?_; rintro e wK ⟨rfl, hK⟩; clear a0 a1 a2 a3 a4 a5; have k2 := HD.out.2.1.keep hK; have k3 := HD.out.2.2.1.keep HD.out.2.1.lt hK; have k4 := HD.out.2.2.2.trans (hK.mono (Nat.le_trans (Nat.le_succ _) (Nat.le_of_lt HD.out.2.1.lt))); have b0 := k2.c0; have b1 := k2.c1; have b2 := k2.c2; have b3 := k2.c3; have b4 := k2.c4; have b5 := k2.c5; have f0 := k3.f0; have f1 := k3.f1; have f2 := k3.f2; have f3 := k3.f3; have f4 := k3.f4; have f5 := k3.f5)
      have zw := k2.wrote (up r.1.s) r.1.k r.1.n r.1.lo r.1.hi (up r.1.p)
      have hZ := st6_below k4 (N + 1) (Nat.le_succ _) (.int .i64 (up r.1.s)) (.bool r.1.k) (.int .i64 r.1.n) (.int .i64 r.1.lo) (.int .i64 r.1.hi) (.int .i64 (up r.1.p))
      clear c5 HD hK k2 k3 k4 b0 b1 b2 b3 b4 b5 f0 f1 f2 f3 f4 f5
      have a0 := zw.c0
      have a1 := zw.c1
      have a2 := zw.c2
      have a3 := zw.c3
      have a4 := zw.c4
      have a5 := zw.c5
      clear zw
      refine bodyPost_ret (by simp [results, Try.results69, go_sem, *]; try rfl) rfl ⟨?_, by rw [← HN.out]; exact hZ⟩
      rfl
    · go_wp2_with (go_at_call 113; refine (c5 _).mono ?_; rintro e wK ⟨rfl, hK⟩; clear a0 a1 a2 a3 a4 a5; have k2 := HD.out.2.1.keep hK; have k3 := HD.out.2.2.1.keep HD.out.2.1.lt hK; have k4 := HD.out.2.2.2.trans (hK.mono (Nat.le_trans (Nat.le_succ _) (Nat.le_of_lt HD.out.2.1.lt))); have b0 := k2.c0; have b1 := k2.c1; have b2 := k2.c2; have b3 := k2.c3; have b4 := k2.c4; have b5 := k2.c5; have f0 := k3.f0; have f1 := k3.f1; have f2 := k3.f2; have f3 := k3.f3; have f4 := k3.f4; have f5 := k3.f5)
      have zw := k2.wrote (up r.1.s) r.1.k r.1.n r.1.lo r.1.hi (up r.1.p)
      have hZ := st6_below k4 (N + 1) (Nat.le_succ _) (.int .i64 (up r.1.s)) (.bool r.1.k) (.int .i64 r.1.n) (.int .i64 r.1.lo) (.int .i64 r.1.hi) (.int .i64 (up r.1.p))
      clear c5 HD hK k2 k3 k4 b0 b1 b2 b3 b4 b5 f0 f1 f2 f3 f4 f5
      have a0 := zw.c0
      have a1 := zw.c1
      have a2 := zw.c2
      have a3 := zw.c3
      have a4 := zw.c4
      have a5 := zw.c5
      clear zw
      refine bodyPost_ret (by simp [results, Try.results69, go_sem, *]; try rfl) rfl ⟨?_, by rw [← HN.out]; exact hZ⟩
      rfl
end Go.Proofs.Ytmhicllhjiglkaa
namespace Go.Proofs.Ytmhicllhjiglkaa
open Go.RowKit
def Wi (s t : Int × Int) : Prop := t.1 ≤ s.1 ∧ s.2 ≤ t.2
theorem br_join : ∀ (x y : BitVec 3) (b : Bool), branchS (x ||| y) b = branchS x b ||| branchS y b := by decide
theorem branch_rises (yes : Bool) (a b : Int × Int) (ha : Sp a) (h : Wi a b) (hok : (branchP a yes).2 = true) : (branchP b yes).2 = true ∧ Wi (branchP a yes).1 (branchP b yes).1 := by
  cases yes
  · have hok : (brF a).2 = true := hok
    show (brF b).2 = true ∧ Wi (brF a).1 (brF b).1
    unfold brF at *
    unfold Wi Sp at *
    by_cases c : a.1 ≤ 0 ∧ 0 ≤ a.2
    · rw [if_pos c, if_pos (by omega)]
      exact ⟨rfl, Int.le_refl _, Int.le_refl _⟩
    · rw [if_neg c] at hok
      exact Bool.noConfusion hok
  · have hok : (brT a).2 = true := hok
    show (brT b).2 = true ∧ Wi (brT a).1 (brT b).1
    unfold brT at *
    unfold Wi Sp at *
    by_cases c0 : a.1 = 0 ∧ a.2 = 0
    · rw [if_pos c0] at hok
      exact Bool.noConfusion hok
    rw [if_neg c0, if_neg (by omega)]
    repeat' (first | (refine ⟨rfl, ?_⟩; dsimp only; omega) | split)
theorem some_true (x : V) (is : Bool) (h1 : is = true) (h2 : x.s ≠ 0) (h3 : x.p ≠ 0) : someV x is = (x, true) := if_pos ⟨h1, h2, h3⟩
theorem some_of (x : V) (is : Bool) (h : (someV x is).2 = true) : is = true ∧ x.s ≠ 0 ∧ x.p ≠ 0 ∧ someV x is = (x, true) := by
  unfold someV at *
  by_cases c : is = true ∧ x.s ≠ 0 ∧ x.p ≠ 0
  · rw [if_pos c]; exact ⟨c.1, c.2.1, c.2.2, rfl⟩
  · rw [if_neg c] at h; cases h
theorem ws_ne : ∀ x y : BitVec 3, withinS x y = true → x ≠ 0 → y ≠ 0 := by decide
theorem ws_eq : ∀ x y : BitVec 3, withinS x y = true → x ||| y = y := by decide
theorem ws_of : ∀ x y z : BitVec 3, z = x ||| y → withinS x z = true := by decide
theorem some_risesV (x y : V) (i j : Bool) (h : (someV x i).2 = true) (hij : i = true → j = true ∧ withinV x y = true) : (someV y j).2 = true ∧ withinV (someV x i).1 (someV y j).1 = true := by
  obtain ⟨a, b, c, d⟩ := some_of x i h
  have t := hij a
  have u := (withinV_iff x y).1 t.2
  rw [d, some_true y j t.1 (ws_ne _ _ u.1 b) (ws_ne _ _ u.2.2.2 c)]
  exact ⟨rfl, t.2⟩
theorem wk_e {a : Bool} {n : Int} {b : Bool} {m : Int} (h : withinK a n b m = true) : b = true → a = true ∧ n = m := by
  intro e; subst e; unfold withinK at h; simpa using h
theorem wk_self (a : Bool) (n : Int) : withinK a n a n = true := by unfold withinK; cases a <;> simp
theorem wk_no (a : Bool) (n m : Int) : withinK a n false m = true := by unfold withinK; simp
theorem brQ_join : ∀ (x y : BitVec 3) (b : Bool), branchQ (x ||| y) b = branchQ x b ||| branchQ y b := by decide
theorem kbr_rises (a a' : Bool) (an an' : Int) (yes : Bool) (h1 : withinK a an a' an' = true) (h : brOk a an yes = true) : brOk a' an' yes = true ∧ withinK (brI a an yes) (brN a an yes) (brI a' an' yes) (brN a' an' yes) = true := by
  have e1 := wk_e h1
  cases a'
  · refine ⟨by unfold brOk; cases yes <;> simp, ?_⟩
    cases yes
    · have : brI a an false = true := by unfold brI brOk at *; simpa using h
      rw [this]
      unfold withinK brI brN; simp
    · have : brI false an' true = false := by unfold brI; simp
      rw [this]; exact wk_no _ _ _
  · obtain ⟨e, f⟩ := e1 rfl
    subst e f
    exact ⟨h, wk_self _ _⟩
theorem branch_risesV (yes : Bool) (a a' : V) (ha : a.ok) (h1 : withinV a a' = true) (h : (branchV a yes).2 = true) : (branchV a' yes).2 = true ∧ withinV (branchV a yes).1 (branchV a' yes).1 = true := by
  rw [withinV_iff] at h1
  refine some_risesV _ _ _ _ h fun hi => ?_
  rw [Bool.and_eq_true] at hi
  have k := kbr_rises a.k a'.k a.n a'.n yes h1.2.1 hi.1
  have t := branch_rises yes (a.lo, a.hi) (a'.lo, a'.hi) ha.sp h1.2.2.1 hi.2
  have s1 : withinS (branchS a.s yes) (branchS a'.s yes) = true := ws_of _ (branchS a'.s yes) _ (by rw [← br_join, ws_eq _ _ h1.1])
  have p1 : withinS (branchQ a.p yes) (branchQ a'.p yes) = true := ws_of _ (branchQ a'.p yes) _ (by rw [← brQ_join, ws_eq _ _ h1.2.2.2])
  refine ⟨by rw [k.1, t.1]; rfl, ?_⟩
  rw [withinV_iff]
  exact ⟨s1, k.2, t.2, p1⟩
end Go.Proofs.Ytmhicllhjiglkaa
namespace Go.Proofs.Ytmhicllhjiglkaa
open Go.RowKit
theorem St.base {W w1 w2 : World} {v : Value} {ps : List Int} (h : St w1 w2 v ps) (hb : Below W.heap.size W w1) : St W w2 v ps := ⟨ownsRow_mono h.own hb.size, hb.trans (h.bel.mono hb.size)⟩
theorem St.more {W w1 : World} {v : Value} {ps : List Int} (h : St W w1 v ps) (o : Obj) : St W (w1.alloc o) v ps := ⟨World.ownsRow.alloc h.own _, h.bel.alloc h.bel.size _⟩
theorem ri_grown {w w' : World} {nb : Nat} {l : List Int} {row : Option Nat} (h : Ri w (some ⟨nb, 0, none⟩) l) (hg : w.grownBy w' row) (hne : some nb ≠ row) : Ri w' (some ⟨nb, 0, none⟩) l := fun i x hx => by
  obtain ⟨b, o, e, hc⟩ := h i x hx
  obtain ⟨rfl, rfl⟩ : nb = b ∧ 0 = o := by simpa using e
  exact ⟨nb, 0, rfl, hg.cell hc hne⟩
theorem ri_lit1 (w : World) (n : Int) : Ri (w.alloc (.cells #[.int .i64 n] 3)) (some ⟨w.heap.size, 0, none⟩) [n] := fun i x hx => by
  cases i with
  | zero => simp at hx; subst hx; exact ⟨w.heap.size, 0, rfl, by simp⟩
  | succ i => simp at hx
/-- numbers more, and what else stays -/
theorem wp_appY {o : Oper} {a : Act} {K : Act → World → Prop} {Q : Exit → Act → World → Prop} (w0 w1 : World) (s x : Operand)
    (ho : o.op = .call { callee := .builtin .append, args := #[s, x], argTypes := #[38, 38] })
    (v : Value) (ps : List Int) (hS : St w0 w1 v ps) (hs : a.eval s = v) (az : Option Addr) (c : Nat) (zs : List Int) (hx : a.eval x = .slice az zs.length c) (hz : Ri w1 az zs) (hn : az = none → c = 0 ∧ zs = []) (hl : ps.length + zs.length ≤ 1000000)
    (h : ∀ a' c' w', St w0 w' (.slice a' (ps.length + zs.length) c') (ps ++ zs) → w1.grownBy w' v.ownBlock → K (a.put o.dst (.slice a' (ps.length + zs.length) c')) w') : o.wp Try.prog a w1 K Q := by
  cases az with
  | none =>
    obtain ⟨rfl, rfl⟩ := hn rfl
    obtain ⟨a', c', rfl⟩ := hS.slice
    refine wp_app0 w0 w1 s x ho _ ps hS hs hx ?_
    have := h a' c' w1 (by simpa using hS) ⟨rfl, rfl, rfl, Nat.le_refl _, fun _ _ _ => rfl⟩
    simpa using this
  | some ad =>
    obtain ⟨i0, hi, hz0, hz1, hz2⟩ := info_parts info3p
    refine wp_append_own _ s x 38 ho w0.heap.size 3 i0 (.int .i64 0) 1 8 Try.underlying38 hi hz0 hz1 hz2 rfl (by decide) v ps.length (I64 ps) hs hS.own ad zs.length c (I64 zs) hx (by simp [I64]) ?_ (i64_one zs) ?_ ?_ ?_ ?_
    · intro j u hj
      unfold I64 at hj
      rw [List.getElem?_map, Option.map_eq_some_iff] at hj
      obtain ⟨n, hn, rfl⟩ := hj
      obtain ⟨b, o', e, hc⟩ := hz j n hn
      obtain rfl := Option.some.inj e
      rw [addr_none]; exact hc
    · unfold maxLen; omega
    · omega
    · exact hS.bel.size
    · intro v' w' hown hgrow _
      have hT : St w0 w' v' (ps ++ zs) := by
        refine ⟨?_, hS.bel.grown hgrow hS.bel.size (fun k hk => ((hS.own.lt k hk).1))⟩
        have e : I64 (ps ++ zs) = I64 ps ++ I64 zs := by simp [I64]
        rw [e]
        simpa using hown
      obtain ⟨a', c', rfl⟩ := hT.slice
      simp only [List.length_append] at hT ⊢
      exact h a' c' w' hT hgrow
end Go.Proofs.Ytmhicllhjiglkaa
namespace Go.Proofs.Ytmhicllhjiglkaa
open Go.RowKit
theorem wpList_appY {ops : Array Oper} {rest : List Oper} {o : Oper} {a : Act} {Q : Exit → Act → World → Prop} (w0 w1 : World) (hgd : o.guard = none) (s x : Operand)
    (ho : o.op = .call { callee := .builtin .append, args := #[s, x], argTypes := #[38, 38] })
    (v : Value) (ps : List Int) (hS : St w0 w1 v ps) (hs : a.eval s = v) (az : Option Addr) (c : Nat) (zs : List Int) (hx : a.eval x = .slice az zs.length c) (hz : Ri w1 az zs) (hn : az = none → c = 0 ∧ zs = []) (hl : ps.length + zs.length ≤ 1000000)
    (h : ∀ a' c' w', St w0 w' (.slice a' (ps.length + zs.length) c') (ps ++ zs) → w1.grownBy w' v.ownBlock → wpList Try.prog ops Q rest (a.put o.dst (.slice a' (ps.length + zs.length) c')) w') : wpList Try.prog ops Q (o :: rest) a w1 :=
  wpList_plain hgd fun _ hK => wp_appY w0 w1 s x ho v ps hS hs az c zs hx hz hn hl fun a' c' w' h2 h3 => hK _ _ (h a' c' w' h2 h3)
/-- Values more -/
theorem wpList_appVs {ops : Array Oper} {rest : List Oper} {o : Oper} {a : Act} {Q : Exit → Act → World → Prop} (w1 : World) (B : Nat) (t T : TypeId) (ht : Try.prog.underlying t = some (.slice T)) (hI : (Try.prog.info? T).map (fun i => (i.zero, i.size, i.bytes)) = some (some zV, 6, 48)) (hgd : o.guard = none) (s x : Operand)
    (ho : o.op = .call { callee := .builtin .append, args := #[s, x], argTypes := #[t, t] })
    (v : Value) (vs : List R) (ys : List R) (ad : Addr) (c : Nat) (hO : OwV w1 B T v vs) (hY : RV w1 (some ad) ys) (hs : a.eval s = v) (hx : a.eval x = .slice (some ad) ys.length c) (hl : vs.length + ys.length ≤ 1000000) (hB : B ≤ w1.heap.size)
    (h : ∀ a' c' w', OwV w' B T (.slice a' (vs.length + ys.length) c') (vs ++ ys) → w1.grownBy w' v.ownBlock → wpList Try.prog ops Q rest (a.put o.dst (.slice a' (vs.length + ys.length) c')) w') : wpList Try.prog ops Q (o :: rest) a w1 := by
  obtain ⟨i0, hi, hz0, hz1, hz2⟩ := info_parts hI
  refine wpList_append_own _ hgd s x t ho B T i0 zV 6 48 ht hi hz0 hz1 hz2 rfl (by decide) v vs.length (VR vs) hs hO ad ys.length c (VR ys) hx (VR_len ys) ?_ (VR_one ys) ?_ ?_ ?_ ?_
  · intro j u hj
    have hjl : j < ys.length * 6 := by
      rcases Nat.lt_or_ge j (VR ys).length with t | t
      · rw [VR_len] at t; exact t
      · rw [List.getElem?_eq_none t] at hj; cases hj
    have hm : j / 6 < ys.length := by omega
    obtain ⟨b, of, e, h6⟩ := hY (j / 6) (ys[j / 6]) (by simp [hm])
    obtain rfl := Option.some.inj e
    rw [addr_none]
    have hx2 := VR_at (ys[j / 6]) (j % 6) (Nat.mod_lt _ (by omega)) ys (j / 6) (by simp [hm])
    have ej : j / 6 * 6 + j % 6 = j := by omega
    rw [ej, hj] at hx2
    have ea : of + j = of + j / 6 * 6 + j % 6 := by omega
    rw [ea]
    have h7 : j % 6 = 0 ∨ j % 6 = 1 ∨ j % 6 = 2 ∨ j % 6 = 3 ∨ j % 6 = 4 ∨ j % 6 = 5 := by omega
    rcases h7 with h7 | h7 | h7 | h7 | h7 | h7 <;> rw [h7] at hx2 ⊢ <;> simp at hx2 <;> subst hx2
    · exact h6.c0
    · exact h6.c1
    · exact h6.c2
    · exact h6.c3
    · exact h6.c4
    · exact h6.c5
  · unfold maxLen; omega
  · omega
  · exact hB
  · intro v' w' hown hgrow _
    have hT : OwV w' B T v' (vs ++ ys) := by
      unfold OwV
      rw [VR_append]
      simpa using hown
    obtain ⟨a', c', rfl, _⟩ := hT.slice
    simp only [List.length_append] at hT ⊢
    exact h a' c' w' hT hgrow
theorem OwV.lit0 (w : World) (T : TypeId) : OwV (w.alloc (.cells #[] T)) w.heap.size T (.slice (some ⟨w.heap.size, 0, none⟩) 0 0) [] := by
  refine ⟨rfl, Or.inr ⟨w.heap.size, 0, #[], rfl, Nat.le_refl _, ?_, Nat.le_refl _, by unfold maxLen; omega, rfl, rfl⟩⟩
  show (w.heap.push _)[w.heap.size]? = _
  simp
set_option maxRecDepth 100000 in
set_option maxHeartbeats 4000000 in
theorem cloneI (l : List Int) (a : Option Addr) (c : Nat) (w : World) (hr : Ri w a l) (hc : l.length ≤ c) (hn : a = none → c = 0) (hl : l.length ≤ 100000) :
    Calls Try.prog 58 #[.slice a l.length c] w fun e w' => ∃ v, e = .returned v ∧ St w w' v l := by
  have HR := hide (hr.keep' ((Below.refl _ _).alloc (Nat.le_refl _) (.cells #[] 3)))
  clear hr
  cases a with
  | none =>
    obtain rfl := hn rfl
    obtain rfl : l = [] := List.eq_nil_of_length_eq_zero (by omega)
    have hnil : ∀ W, (binOp .eql 38 (.slice none 0 0) (.slice none 0 0)).run Try.prog W = .ok (.bool true) W := fun W => Lib.run_eql_slice_nil_nil W _ _ Try.underlying38
    go_enter Try.func58, Try.ntmps58
    go_wp2
    go_ret
    exact ⟨_, rfl, St.start w⟩
  | some ad =>
    have hnil : ∀ W, (binOp .eql 38 (.slice (some ad) l.length c) (.slice none 0 0)).run Try.prog W = .ok (.bool false) W := fun W => Lib.run_eql_slice_some_nil W _ _ _ Try.underlying38
    go_enter Try.func58, Try.ntmps58
    go_wp2_with (at_builtin; refine wpList_appY w (w.alloc (.cells #[] 3)) rfl (.tmp 5) (.tmp 6) rfl _ [] (St.lit0 w) rfl (some ad) c l rfl HR.out (fun e => by cases e) (by simp; omega) ?_; intro a2 c2 w2 hS hg; simp only [List.length_nil, Nat.zero_add, List.nil_append] at hS ⊢; replace hS := hide hS; clear hg)
    go_ret
    exact ⟨_, rfl, hS.out⟩
set_option maxRecDepth 100000 in
set_option maxHeartbeats 4000000 in
theorem cloneV (vs : List R) (a : Option Addr) (c : Nat) (w : World) (hr : RV w a vs) (hc : vs.length ≤ c) (hn : a = none → c = 0) (hl : vs.length ≤ 100000) :
    Calls Try.prog 57 #[.slice a vs.length c] w fun e w' => ∃ v, e = .returned v ∧ OwV w' w.heap.size 53 v vs ∧ Below w.heap.size w w' := by
  have HR := hide (hr.keep ((Below.refl _ _).alloc (Nat.le_refl _) (.cells #[] 53)))
  clear hr
  cases a with
  | none =>
    obtain rfl := hn rfl
    obtain rfl : vs = [] := List.eq_nil_of_length_eq_zero (by omega)
    have hnil : ∀ W, (binOp .eql 27 (.slice none 0 0) (.slice none 0 0)).run Try.prog W = .ok (.bool true) W := fun W => Lib.run_eql_slice_nil_nil W _ _ Try.underlying27
    go_enter Try.func57, Try.ntmps57
    go_wp2
    go_ret
    exact ⟨_, rfl, OwV.nil _ _ _, Below.refl _ _⟩
  | some ad =>
    have hnil : ∀ W, (binOp .eql 27 (.slice (some ad) vs.length c) (.slice none 0 0)).run Try.prog W = .ok (.bool false) W := fun W => Lib.run_eql_slice_some_nil W _ _ _ Try.underlying27
    have hO := hide (OwV.lit0 w 53)
    go_enter Try.func57, Try.ntmps57
    go_wp2_with (at_builtin; refine wpList_appVs (w.alloc (.cells #[] 53)) w.heap.size 27 53 Try.underlying27 info53p rfl (.tmp 5) (.tmp 6) rfl _ [] vs ad c hO.out HR.out rfl rfl (by simp; omega) (by simp) ?_; intro a2 c2 w2 hS hg; simp only [List.length_nil, Nat.zero_add, List.nil_append] at hS ⊢; replace hS := hide hS; replace hg := hide hg)
    go_ret
    exact ⟨_, rfl, hS.out, ((Below.refl _ _).alloc (Nat.le_refl _) _).grown hg.out (by simp) (fun k hk => (hO.out.lt k hk).1)⟩
end Go.Proofs.Ytmhicllhjiglkaa
namespace Go.Proofs.Ytmhicllhjiglkaa
open Go.RowKit
/-- a State in a box: its Values' row lies elsewhere -/
structure Lo2 (w : World) (B1 B q : Nat) (T : TypeId) (s : S) (va sa : Value) (es : List Value) : Prop where
  bx : Bs w q s.r va sa
  fz : Fs w q
  ov : OwV w B1 T va s.vs
  os : OwR w B sa es
  inn : Inn w B es s.ss
  qB : q < B
  nv : ∀ k, va.ownBlock = some k → k ≠ q
theorem Lo2.of {w w' : World} {B1 B q : Nat} {T : TypeId} {s : S} {va sa : Value} {es : List Value} (h : Lo2 w B1 B q T s va sa es) (hb : Below w.heap.size w w') : Lo2 w' B1 B q T s va sa es :=
  ⟨h.bx.keep hb, h.fz.of (hb.block q h.bx.lt), h.ov.keep hb, h.os.of (fun k hk => hb.block k (h.os.lt k hk).2), ⟨h.inn.1, fun m l hm => by
    obtain ⟨e, h1, h2⟩ := h.inn.2 m l hm
    exact ⟨e, h1, h2.keep hb⟩⟩, h.qB, h.nv⟩
theorem Lo2.boxR {w w' : World} {B1 B q : Nat} {T : TypeId} {s : S} {va sa : Value} {es : List Value} (h : Lo2 w B1 B q T s va sa es) (hg : w.grownBy w' sa.ownBlock) : Bs w' q s.r va sa ∧ Fs w' q :=
  have q1 : w'.heap[q]? = w.heap[q]? := hg.block q h.bx.lt (fun e => by have := (h.os.lt q e.symm).1; have := h.qB; omega)
  ⟨h.bx.of q1, h.fz.of q1⟩
theorem Lo2.belR {W w w' : World} {B1 B q : Nat} {T : TypeId} {s : S} {va sa : Value} {es : List Value} (h : Lo2 w B1 B q T s va sa es) (hb : Below q W w) (hg : w.grownBy w' sa.ownBlock) : Below q W w' :=
  hb.grown hg (Nat.le_of_lt h.bx.lt) (fun k hk => by have := (h.os.lt k hk).1; have := h.qB; omega)
theorem Lo2.appR {w w' : World} {B1 B q : Nat} {T : TypeId} {s : S} {va sa sa' e : Value} {es : List Value} {l : List Int} (h : Lo2 w B1 B q T s va sa es) (hT : T ≠ 38) (he : OwI w B e l) (ho : OwR w' B sa' (es ++ [e])) (hg : w.grownBy w' sa.ownBlock) : Lo2 (w'.setCell ⟨q, 2, none⟩ sa') B1 B q T ⟨s.r, s.vs, s.ss ++ [l]⟩ va sa' (es ++ [e]) := by
  have hq : some q ≠ sa.ownBlock := fun t => by have := (h.os.lt q t.symm).1; have := h.qB; omega
  have q1 : w'.heap[q]? = w.heap[q]? := hg.block q h.bx.lt hq
  have far : ∀ k, k ≠ q → (w'.setCell ⟨q, 2, none⟩ sa').heap[k]? = w'.heap[k]? := fun k hk => set_block w' q 2 sa' k hk
  have inn2 : Inn w B (es ++ [e]) (s.ss ++ [l]) := h.inn.app he
  refine ⟨(h.bx.of q1).put2 sa', (h.fz.of q1).put _ _, h.ov.of (fun k hk => ?_), ho.of (fun k hk => far k (by have := (ho.lt k hk).1; have := h.qB; omega)), ⟨inn2.1, fun m l2 hm => ?_⟩, h.qB, h.nv⟩
  · exact (far k (h.nv k hk)).trans (hg.block k (h.ov.lt k hk).2 (own_ne h.ov h.os hT k hk))
  · obtain ⟨e2, h1, h2⟩ := inn2.2 m l2 hm
    exact ⟨e2, h1, h2.of (fun k hk => (far k (by have := (h2.lt k hk).1; have := h.qB; omega)).trans (hg.block k (h2.lt k hk).2 (own_ne h2 h.os (by decide) k hk)))⟩
theorem Lo2.rn {w : World} {N B1 B q : Nat} {T : TypeId} {s : S} {va sa : Value} {es : List Value} (h : Lo2 w B1 B q T s va sa es) (h1 : N ≤ B1) (h2 : N ≤ B) : Rn w N (.agg #[.bool s.r, va, sa]) s := by
  have hn := h.inn
  have hlv := h.ov.lt
  have hls := h.os.lt
  obtain ⟨a, c, rfl, k1, k2⟩ := h.ov.slice
  have hov := h.ov.rv
  obtain ⟨b, d, e, k3, k4⟩ := h.os.slice
  subst e
  have hos := h.os
  rw [hn.1] at k3
  refine ⟨a, c, b, d, by rw [hn.1], fun m x hx => ?_, fun m l hl => ?_, k1, k3, k2, k4⟩
  · obtain ⟨b1, o1, rfl, e2⟩ := hov m x hx
    exact ⟨b1, o1, rfl, Nat.le_trans h1 (hlv b1 rfl).1, e2⟩
  · obtain ⟨e, k5, k6⟩ := hn.2 m l hl
    obtain ⟨b1, o1, rfl, k7⟩ := hos.cell k5
    exact ⟨b1, o1, e, rfl, Nat.le_trans h2 (hls b1 rfl).1, k7, k6.rl, fun k hk => Nat.le_trans h2 (k6.lt k hk).1⟩
theorem Lo2.far3 {w : World} {B1 B q : Nat} {T : TypeId} {s : S} {va sa : Value} {es : List Value} (h : Lo2 w B1 B q T s va sa es) (p : Nat) (r : Bool) (v1 v2 : Value) (hp : p < B) (hp1 : p < B1) (hne : p ≠ q) : Lo2 (st3 w p r v1 v2) B1 B q T s va sa es := by
  have e : ∀ k, k ≠ p → (st3 w p r v1 v2).heap[k]? = w.heap[k]? := fun k hk => st3_block w p r v1 v2 k hk
  refine ⟨h.bx.of (e q (fun t => hne t.symm)), h.fz.of (e q (fun t => hne t.symm)), h.ov.of (fun k hk => e k (by have := (h.ov.lt k hk).1; omega)), h.os.of (fun k hk => e k (by have := (h.os.lt k hk).1; omega)), ⟨h.inn.1, fun m l hm => ?_⟩, h.qB, h.nv⟩
  obtain ⟨e2, h1, h2⟩ := h.inn.2 m l hm
  exact ⟨e2, h1, h2.of (fun k hk => e k (by have := (h2.lt k hk).1; omega))⟩
set_option maxRecDepth 100000 in
set_option maxHeartbeats 8000000 in
theorem copy_S (a b : Option Addr) (c d : Nat) (r : Bool) (vs : List R) (ss : List (List Int)) (w : World) (hv : RV w a vs) (hs : RR w b ss) (hvc : vs.length ≤ c) (hva : a = none → c = 0) (hl1 : vs.length ≤ 100000) (hl2 : ss.length ≤ 100000) (hl3 : ∀ (m : Nat) (l : List Int), ss[m]? = some l → l.length ≤ 100000) :
    Calls Try.prog 22 #[.agg #[.bool r, .slice a vs.length c, .slice b ss.length d]] w fun e w' => ∃ v, e = .returned v ∧ Rn w' w.heap.size v ⟨r, vs, ss⟩ ∧ Below w.heap.size w w' := by
  have HVw := hide hv
  have HRw := hide hs
  have HL3 := hide hl3
  clear hv hs hl3
  go_enter Try.func22, Try.ntmps22
  go_upto_region 1 with fail
  go_name_world W hW
  obtain ⟨q1, h1⟩ : ∃ z9, z9 = w.heap.size + 1 := ⟨_, rfl⟩
  rw [← h1]
  obtain ⟨q0, h0⟩ : ∃ z9, z9 = w.heap.size := ⟨_, rfl⟩
  rw [← h0]
  obtain ⟨B0, -, B1, F1, u⟩ := boxes2 w _ _ _ _ _ _ _ _ W hW
  rw [← h0] at B0
  rw [← h1] at B1 F1
  have KW : Hid (Bs W q0 r (.slice a vs.length c) (.slice b ss.length d) ∧ Bs W q1 false (.slice none 0 0) (.slice none 0 0) ∧ Fs W q1) := ⟨B0, B1, F1⟩
  have BW := hide u
  have HQ : Hid (w.heap.size ≤ q1 ∧ q0 < q1) := hide (by omega)
  have HV := hide (HVw.out.keep u)
  have HS : Hid (∀ w', Below W.heap.size W w' → (w'.cell? ⟨q0, 0, none⟩ = some (.bool r) ∧ w'.cell? ⟨q0, 1, none⟩ = some (.slice a vs.length c) ∧ w'.cell? ⟨q0, 2, none⟩ = some (.slice b ss.length d))) := fun w' h => by
    have t := KW.out.1.keep h
    exact ⟨t.c0, t.c1, t.c2⟩
  clear hW h1 h0 B0 B1 F1 u
  obtain ⟨N1, hN1⟩ : ∃ z9, z9 = W.heap.size := ⟨_, rfl⟩
  have HN1 : Hid (q1 < N1) := hide (by rw [hN1]; exact KW.out.2.1.lt)
  replace hN1 := hide hN1
  go_cut [3] (fun s3 wx => ∃ (q2 : Nat) (a5 : Option Addr) (c5 : Nat), s3 = .pointer (some ⟨q2, 0, none⟩) ∧ W.heap.size ≤ q2 ∧ Hid ((Bs wx q0 r (.slice a vs.length c) (.slice b ss.length d) ∧ Bs wx q1 false (.slice none 0 0) (.slice none 0 0) ∧ Fs wx q1) ∧ Lo2 wx W.heap.size (q2 + 1) q2 53 ⟨r, vs, []⟩ (.slice a5 vs.length c5) (.slice none 0 0) [] ∧ Below w.heap.size w wx))
  case first =>
    refine wp_region_held_drew (S := fun w' => w'.cell? ⟨q0, 0, none⟩ = some (.bool r) ∧ w'.cell? ⟨q0, 1, none⟩ = some (.slice a vs.length c) ∧ w'.cell? ⟨q0, 2, none⟩ = some (.slice b ss.length d)) (by kernel_rfl) (HS.out _ (Below.refl _ _).drew) (fun hH0 => ?_)
    obtain ⟨w0, hw0⟩ : ∃ w0, w0 = W.drew := ⟨_, rfl⟩
    (try rw [← hw0] at hH0)
    rw [← hw0]
    have b0 : Hid (Below W.heap.size W w0) := hw0 ▸ hide (Below.refl _ _).drew
    clear hw0
    refine wpAnyH_take (i := 0) (oi := ({ dst := some 6, op := Op.fieldAddr 29 (Operand.tmp 1) 0, type := 0, pos := _, after := _, guard := _ } : Oper)) (v := ?_) rfl (by kernel_rfl) (by kernel_rfl) (by kernel_rfl) (fun _ _ _ h => h) (Or.inl ⟨by rfl, ?_⟩) (by assumption) ?_
    rotate_left
    · (intro wz hSw; (try dsimp only at hSw); go_simp; try with_reducible rfl)
    simp only [Act.put, List.setIfInBounds_toArray, List.set_cons_zero, List.set_cons_succ]
    refine wpAnyH_take (i := 1) (oi := ({ dst := some 7, op := Op.load 4 (Operand.tmp 6), type := 4, pos := _, after := _, guard := _ } : Oper)) (v := ?_) rfl (by kernel_rfl) (by kernel_rfl) (by kernel_rfl) (fun _ _ _ h => h) (Or.inl ⟨by rfl, ?_⟩) (by assumption) ?_
    rotate_left
    · (intro wz hSw; (try dsimp only at hSw); go_simp; try with_reducible rfl)
    simp only [Act.put, List.setIfInBounds_toArray, List.set_cons_zero, List.set_cons_succ]
    refine wpAnyH_take (i := 2) (oi := ({ dst := some 8, op := Op.fieldAddr 29 (Operand.tmp 1) 1, type := 0, pos := _, after := _, guard := _ } : Oper)) (v := ?_) rfl (by kernel_rfl) (by kernel_rfl) (by kernel_rfl) (fun _ _ _ h => h) (Or.inl ⟨by rfl, ?_⟩) (by assumption) ?_
    rotate_left
    · (intro wz hSw; (try dsimp only at hSw); go_simp; try with_reducible rfl)
    simp only [Act.put, List.setIfInBounds_toArray, List.set_cons_zero, List.set_cons_succ]
    refine wpAnyH_take (i := 3) (oi := ({ dst := some 9, op := Op.load 27 (Operand.tmp 8), type := 27, pos := _, after := _, guard := _ } : Oper)) (v := ?_) rfl (by kernel_rfl) (by kernel_rfl) (by kernel_rfl) (fun _ _ _ h => h) (Or.inl ⟨by rfl, ?_⟩) (by assumption) ?_
    rotate_left
    · (intro wz hSw; (try dsimp only at hSw); go_simp; try with_reducible rfl)
    simp only [Act.put, List.setIfInBounds_toArray, List.set_cons_zero, List.set_cons_succ]
    refine wpAnyH_ready (rs := [4, 6]) (by kernel_rfl) (by simp) ?_
    refine AllReadyH.cons (o := ({ dst := some 10, op := Op.call { callee := Callee.value (Operand.func 57), args := #[Operand.tmp 9], argTypes := #[27] }, type := 27, pos := _, after := _, guard := _ } : Oper)) rfl (fun K hK => ?_) (AllReadyH.cons (o := ({ dst := some 3, op := Op.alloc 29, type := 0, pos := _, after := _, guard := _ } : Oper)) rfl (fun K hK => ?_) AllReadyH.nil)
    · go_simp
      go_at_call 57
      refine (cloneV vs a c _ (HV.out.keep b0.out) hvc hva hl1).mono ?_
      rintro e w1 ⟨v, rfl, hO, hb1⟩
      obtain ⟨a5, c5, rfl, -, -⟩ := hO.slice
      have b1 := hide (b0.out.trans (hb1.mono b0.out.size))
      have O1 : Hid (OwV w1 W.heap.size 53 (.slice a5 vs.length c5) vs) := ownsRow_mono hO b0.out.size
      refine hK.out _ _ (HS.out _ b1.out) (fun hH1 => ?_)
      clear hK K hb1 hO
      refine wpAnyH_take (i := 5) (oi := ({ dst := some 11, op := Op.build 29 #[(0, Operand.tmp 7), (1, Operand.tmp 10)], type := 29, pos := _, after := _, guard := _ } : Oper)) (v := ?_) rfl (by kernel_rfl) (by kernel_rfl) (by kernel_rfl) (fun _ _ _ h => h) (Or.inl ⟨by rfl, ?_⟩) (by assumption) ?_
      rotate_left
      · (intro wz hSw; (try dsimp only at hSw); go_simp; try with_reducible rfl)
      simp only [Act.put, List.setIfInBounds_toArray, List.set_cons_zero, List.set_cons_succ]
      refine wpAnyH_ready (rs := [6]) (by kernel_rfl) (by simp) ?_
      refine AllReadyH.cons (o := ({ dst := some 3, op := Op.alloc 29, type := 0, pos := _, after := _, guard := _ } : Oper)) rfl (fun K hK => ?_) AllReadyH.nil
      · go_simp
        have hb2 : Below w1.heap.size w1 (w1.alloc (.cells #[.bool false, .slice none 0 0, .slice none 0 0] 29)) := (Below.refl _ _).alloc (Nat.le_refl _) _
        have b2 := hide (b1.out.trans (hb2.mono b1.out.size))
        have X2 := hide (And.intro (Bs.new w1 false (.slice none 0 0) (.slice none 0 0) 29) (Fs.new w1 false (.slice none 0 0) (.slice none 0 0) 29))
        have NV : Hid (∀ k, Value.ownBlock (.slice a5 vs.length c5) = some k → k ≠ w1.heap.size) := hide (fun k hk => by have := (O1.out.lt k hk).2; omega)
        have O2 := hide (O1.out.keep hb2)
        have NQ : Hid (W.heap.size ≤ w1.heap.size) := hide b1.out.size
        refine hK.out _ _ (HS.out _ b2.out) (fun hH2 => ?_)
        clear hK K hb2
        obtain ⟨w2, hw2⟩ : ∃ z9, z9 = (w1.alloc (.cells #[.bool false, .slice none 0 0, .slice none 0 0] 29)) := ⟨_, rfl⟩
        rw [← hw2] at hH2 X2 b2 O2 ⊢
        clear hw2
        generalize w1.heap.size = q2 at *
        refine wpAnyH_ready (rs := [7]) (by kernel_rfl) (by simp) ?_
        refine AllReadyH.cons (o := ({ dst := none, op := Op.store 29 (Operand.tmp 3) (Operand.tmp 11), type := 0, pos := _, after := _, guard := _ } : Oper)) rfl (fun K hK => ?_) AllReadyH.nil
        · have z0 := X2.out.1.c0
          have z1 := X2.out.1.c1
          have z2 := X2.out.1.c2
          have y0 := X2.out.2.f0
          have y1 := X2.out.2.f1
          have y2 := X2.out.2.f2
          go_simp
          have X3 := hide (And.intro (X2.out.1.put3 r (.slice a5 vs.length c5) (.slice none 0 0)) (X2.out.2.put3 (p := q2) r (.slice a5 vs.length c5) (.slice none 0 0)))
          have b3 := hide (st3_below b2.out q2 NQ.out r (.slice a5 vs.length c5) (.slice none 0 0))
          have O3 := hide (O2.out.of (fun k hk => st3_block w2 q2 r (.slice a5 vs.length c5) (.slice none 0 0) k (NV.out k hk)))
          refine hK.out _ _ (HS.out _ b3.out) (fun hH3 => ?_)
          clear hK K z0 z1 z2 y0 y1 y2
          refine wpAnyH_done (by kernel_rfl) ?_ _
          go_wp2_with fail
          go_meet
          case rel => exact ⟨q2, a5, c5, rfl, NQ.out, ⟨KW.out.1.of (b3.out.block q0 KW.out.1.lt), KW.out.2.1.of (b3.out.block q1 KW.out.2.1.lt), KW.out.2.2.of (b3.out.block q1 KW.out.2.1.lt)⟩, ⟨X3.out.1, X3.out.2, O3.out, OwR.nil _ _, Inn.nil _ _, Nat.lt_succ_self _, NV.out⟩, BW.out.trans (b3.out.mono BW.out.size)⟩
    · go_simp
      have hb1 : Below w0.heap.size w0 (w0.alloc (.cells #[.bool false, .slice none 0 0, .slice none 0 0] 29)) := (Below.refl _ _).alloc (Nat.le_refl _) _
      have b1 := hide (b0.out.trans (hb1.mono b0.out.size))
      have X1 := hide (And.intro (Bs.new w0 false (.slice none 0 0) (.slice none 0 0) 29) (Fs.new w0 false (.slice none 0 0) (.slice none 0 0) 29))
      have NQ : Hid (W.heap.size ≤ w0.heap.size) := hide b0.out.size
      refine hK.out _ _ (HS.out _ b1.out) (fun hH1 => ?_)
      clear hK K hb1
      obtain ⟨w1, hw1⟩ : ∃ z9, z9 = (w0.alloc (.cells #[.bool false, .slice none 0 0, .slice none 0 0] 29)) := ⟨_, rfl⟩
      rw [← hw1] at hH1 X1 b1  ⊢
      clear hw1
      generalize w0.heap.size = q2 at *
      refine wpAnyH_ready (rs := [4]) (by kernel_rfl) (by simp) ?_
      refine AllReadyH.cons (o := ({ dst := some 10, op := Op.call { callee := Callee.value (Operand.func 57), args := #[Operand.tmp 9], argTypes := #[27] }, type := 27, pos := _, after := _, guard := _ } : Oper)) rfl (fun K hK => ?_) AllReadyH.nil
      · go_simp
        go_at_call 57
        refine (cloneV vs a c _ (HV.out.keep b1.out) hvc hva hl1).mono ?_
        rintro e w2 ⟨v, rfl, hO, hb2⟩
        obtain ⟨a5, c5, rfl, -, -⟩ := hO.slice
        have b2 := hide (b1.out.trans (hb2.mono b1.out.size))
        have X2 := hide (And.intro (X1.out.1.keep hb2) (X1.out.2.of (hb2.block q2 X1.out.1.lt)))
        have NV : Hid (∀ k, Value.ownBlock (.slice a5 vs.length c5) = some k → k ≠ q2) := hide (fun k hk => by have := (hO.lt k hk).1; have := X1.out.1.lt; omega)
        have O2 : Hid (OwV w2 W.heap.size 53 (.slice a5 vs.length c5) vs) := ownsRow_mono hO b1.out.size
        refine hK.out _ _ (HS.out _ b2.out) (fun hH2 => ?_)
        clear hK K hb2 hO
        refine wpAnyH_take (i := 5) (oi := ({ dst := some 11, op := Op.build 29 #[(0, Operand.tmp 7), (1, Operand.tmp 10)], type := 29, pos := _, after := _, guard := _ } : Oper)) (v := ?_) rfl (by kernel_rfl) (by kernel_rfl) (by kernel_rfl) (fun _ _ _ h => h) (Or.inl ⟨by rfl, ?_⟩) (by assumption) ?_
        rotate_left
        · (intro wz hSw; (try dsimp only at hSw); go_simp; try with_reducible rfl)
        simp only [Act.put, List.setIfInBounds_toArray, List.set_cons_zero, List.set_cons_succ]
        refine wpAnyH_ready (rs := [7]) (by kernel_rfl) (by simp) ?_
        refine AllReadyH.cons (o := ({ dst := none, op := Op.store 29 (Operand.tmp 3) (Operand.tmp 11), type := 0, pos := _, after := _, guard := _ } : Oper)) rfl (fun K hK => ?_) AllReadyH.nil
        · have z0 := X2.out.1.c0
          have z1 := X2.out.1.c1
          have z2 := X2.out.1.c2
          have y0 := X2.out.2.f0
          have y1 := X2.out.2.f1
          have y2 := X2.out.2.f2
          go_simp
          have X3 := hide (And.intro (X2.out.1.put3 r (.slice a5 vs.length c5) (.slice none 0 0)) (X2.out.2.put3 (p := q2) r (.slice a5 vs.length c5) (.slice none 0 0)))
          have b3 := hide (st3_below b2.out q2 NQ.out r (.slice a5 vs.length c5) (.slice none 0 0))
          have O3 := hide (O2.out.of (fun k hk => st3_block w2 q2 r (.slice a5 vs.length c5) (.slice none 0 0) k (NV.out k hk)))
          refine hK.out _ _ (HS.out _ b3.out) (fun hH3 => ?_)
          clear hK K z0 z1 z2 y0 y1 y2
          refine wpAnyH_done (by kernel_rfl) ?_ _
          go_wp2_with fail
          go_meet
          case rel => exact ⟨q2, a5, c5, rfl, NQ.out, ⟨KW.out.1.of (b3.out.block q0 KW.out.1.lt), KW.out.2.1.of (b3.out.block q1 KW.out.2.1.lt), KW.out.2.2.of (b3.out.block q1 KW.out.2.1.lt)⟩, ⟨X3.out.1, X3.out.2, O3.out, OwR.nil _ _, Inn.nil _ _, Nat.lt_succ_self _, NV.out⟩, BW.out.trans (b3.out.mono BW.out.size)⟩
  case rest =>
    obtain ⟨q2, a5, c5, rfl, hq2, h4⟩ := hcut
    rw [← hN1.out] at h4 hq2
    have FQ : Hid (q0 < q2 ∧ q1 < q2) := hide (by have := HQ.out; have := HN1.out; omega)
    have FQ2 : Hid (w.heap.size ≤ q2) := hide (by have := HQ.out; have := HN1.out; omega)
    clear HS HV KW BW hN1
    have e2 := h4.out.1.1.c2
    go_upto_region 3 with fail
    clear e2
    go_wp2_with fail
    go_loopw [5, 15] (fun s5 s15 wr => ∃ (k : Nat) (sa : Value) (es : List Value), s15 = .int .i64 k ∧ k ≤ ss.length ∧ Hid ((Bs wr q0 r (.slice a vs.length c) (.slice b ss.length d) ∧ Bs wr q1 false (.slice none 0 0) (.slice none 0 0) ∧ Fs wr q1) ∧ Lo2 wr N1 (q2 + 1) q2 53 ⟨r, vs, ss.take k⟩ (.slice a5 vs.length c5) sa es ∧ Below w.heap.size w wr)) (fun _ s15 _ => ss.length - (intOf s15).toNat)
    case atStart => exact ⟨0, _, _, rfl, Nat.zero_le _, h4.out⟩
    case round =>
      obtain ⟨k, sa, es, rfl, hk, h5⟩ := hrel
      clear h4
      by_cases hks : k < ss.length
      · have hks2 : (k : Int) < ss.length := by omega
        obtain ⟨b2, o2, l, ai, ci, hX2, rfl, hc1, hc2, hlc, hln⟩ := HRw.out.at hks
        have HX := hide hX2
        have hll := HL3.out k l hX2
        have g2 := (h5.out.2.2.cell (p := ⟨b2, o2 + k, none⟩) (World.block_lt_of_cell? w _ hc1)).trans hc1
        have HI0 := hide hc2
        clear hX2 hc1 hc2
        go_upto_region 5 with fail
        go_name_world W5 hW5
        rw [hW5] at h5
        clear hW5 g2
        have KW2 := hide h5.out.1
        have LW := hide h5.out.2.1
        have BW2 := hide h5.out.2.2
        have HI : Hid (∀ w', Below q2 W5 w' → Ri w' ai l) := hide (fun w' h => HI0.out.keep' (BW2.out.trans (h.mono FQ2.out)))
        clear h5
        refine wp_region_held_drew (S := fun w' => True) (by kernel_rfl) trivial (fun hH0 => ?_)
        obtain ⟨w0, hw0⟩ : ∃ w0, w0 = W5.drew := ⟨_, rfl⟩
        (try rw [← hw0] at hH0)
        rw [← hw0]
        have L0 : Hid (Lo2 w0 N1 (q2 + 1) q2 53 ⟨r, vs, ss.take k⟩ (.slice a5 vs.length c5) sa es) := hw0 ▸ hide (LW.out.of (Below.refl _ _).drew)
        have b0 : Hid (Below q2 W5 w0) := hw0 ▸ hide (Below.refl _ _).drew
        clear hw0
        refine wpAnyH_take (i := 0) (oi := ({ dst := some 19, op := Op.fieldAddr 29 (Operand.tmp 3) 2, type := 0, pos := _, after := _, guard := _ } : Oper)) (v := ?_) rfl (by kernel_rfl) (by kernel_rfl) (by kernel_rfl) (fun _ _ _ h => h) (Or.inl ⟨by rfl, ?_⟩) (by assumption) ?_
        rotate_left
        · (intro wz hSw; (try dsimp only at hSw); go_simp; try with_reducible rfl)
        simp only [Act.put, List.setIfInBounds_toArray, List.set_cons_zero, List.set_cons_succ]
        refine wpAnyH_take (i := 2) (oi := ({ dst := some 21, op := Op.move (Operand.tmp 5), type := 38, pos := _, after := _, guard := _ } : Oper)) (v := ?_) rfl (by kernel_rfl) (by kernel_rfl) (by kernel_rfl) (fun _ _ _ h => h) (Or.inl ⟨by rfl, ?_⟩) (by assumption) ?_
        rotate_left
        · (intro wz hSw; (try dsimp only at hSw); go_simp; try with_reducible rfl)
        simp only [Act.put, List.setIfInBounds_toArray, List.set_cons_zero, List.set_cons_succ]
        refine wpAnyH_ready (rs := [1, 3]) (by kernel_rfl) (by simp) ?_
        refine AllReadyH.cons (o := ({ dst := some 20, op := Op.load 23 (Operand.tmp 19), type := 23, pos := _, after := _, guard := _ } : Oper)) rfl (fun K hK => ?_) (AllReadyH.cons (o := ({ dst := some 22, op := Op.call { callee := Callee.value (Operand.func 58), args := #[Operand.tmp 21], argTypes := #[38] }, type := 38, pos := _, after := _, guard := _ } : Oper)) rfl (fun K hK => ?_) AllReadyH.nil)
        · have zc := L0.out.bx.c2
          go_simp
          refine hK.out _ _ hH0 (fun _ => ?_)
          clear hK K zc
          refine wpAnyH_ready (rs := [3]) (by kernel_rfl) (by simp) ?_
          refine AllReadyH.cons (o := ({ dst := some 22, op := Op.call { callee := Callee.value (Operand.func 58), args := #[Operand.tmp 21], argTypes := #[38] }, type := 38, pos := _, after := _, guard := _ } : Oper)) rfl (fun K hK => ?_) AllReadyH.nil
          · go_simp
            go_at_call 58
            refine (cloneI l ai ci _ (HI.out _ b0.out) hlc hln hll).mono ?_
            rintro e w1 ⟨v9, rfl, hS⟩
            obtain ⟨ax, cx, rfl⟩ := hS.slice
            have hb1 := hS.bel
            have L1 := hide (L0.out.of hb1)
            have b1 := hide (b0.out.trans (hb1.mono (Nat.le_of_lt L0.out.bx.lt)))
            have I1 := hide (hS.owi (Nat.succ_le_of_lt L0.out.bx.lt))
            refine hK.out _ _ trivial (fun hH1 => ?_)
            clear hK K hb1 hS
            refine wpAnyH_ready (rs := [4]) (by kernel_rfl) (by simp) ?_
            refine AllReadyH.cons (o := ({ dst := some 23, op := Op.buildSlice 23 1 #[(0, Operand.tmp 22)], type := 23, pos := _, after := _, guard := _ } : Oper)) rfl (fun K hK => ?_) AllReadyH.nil
            · go_simp
              have hb2 : Below w1.heap.size w1 (w1.alloc (.cells #[(.slice ax l.length cx)] 38)) := (Below.refl _ _).alloc (Nat.le_refl _) _
              have L2 := hide (L1.out.of hb2)
              have b2 := hide (b1.out.trans (hb2.mono (Nat.le_of_lt L1.out.bx.lt)))
              have I2 := hide (I1.out.keep hb2)
              have Y2 := hide (C1.new w1 (.slice ax l.length cx) 38)
              refine hK.out _ _ trivial (fun hH2 => ?_)
              clear hK K hb2
              obtain ⟨w2, hw2⟩ : ∃ z9, z9 = (w1.alloc (.cells #[(.slice ax l.length cx)] 38)) := ⟨_, rfl⟩
              rw [← hw2] at L2 b2 Y2 I2 ⊢
              clear hw2
              generalize w1.heap.size = nc at *
              refine wpAnyH_ready (rs := [5]) (by kernel_rfl) (by simp) ?_
              refine AllReadyH.cons (o := ({ dst := some 24, op := Op.call { callee := Callee.builtin Builtin.append, args := #[Operand.tmp 20, Operand.tmp 23], argTypes := #[23, 23] }, type := 23, pos := _, after := _, guard := _ } : Oper)) rfl (fun K hK => ?_) AllReadyH.nil
              · refine wp_appR' w2 (q2 + 1) (.tmp 20) (.tmp 23) rfl _ es (.slice ax l.length cx) nc rfl L2.out.os Y2.out.c rfl rfl ?_ (Nat.succ_le_of_lt L2.out.bx.lt) ?_
                · (have t1 := L2.out.inn.1; dsimp only at t1; rw [List.length_take] at t1; omega)
                intro a3 c3 w3 hO3 hg3
                have b3 := hide (L2.out.belR b2.out hg3)
                refine hK.out _ _ trivial (fun hH3 => ?_)
                clear hK K
                replace hO3 := hide hO3
                replace hg3 := hide hg3
                refine wpAnyH_take (i := 6) (oi := ({ dst := some 25, op := Op.fieldAddr 29 (Operand.tmp 3) 2, type := 0, pos := _, after := _, guard := _ } : Oper)) (v := ?_) rfl (by kernel_rfl) (by kernel_rfl) (by kernel_rfl) (fun _ _ _ h => h) (Or.inl ⟨by rfl, ?_⟩) (by assumption) ?_
                rotate_left
                · (intro wz hSw; (try dsimp only at hSw); go_simp; try with_reducible rfl)
                simp only [Act.put, List.setIfInBounds_toArray, List.set_cons_zero, List.set_cons_succ]
                refine wpAnyH_ready (rs := [7]) (by kernel_rfl) (by simp) ?_
                refine AllReadyH.cons (o := ({ dst := none, op := Op.store 23 (Operand.tmp 25) (Operand.tmp 24), type := 0, pos := _, after := _, guard := _ } : Oper)) rfl (fun K hK => ?_) AllReadyH.nil
                · have zb := (L2.out.boxR hg3.out).1
                  have zf := (L2.out.boxR hg3.out).2
                  have z0 := zb.c0
                  have z1 := zb.c1
                  have z2 := zb.c2
                  have y0 := zf.f0
                  have y1 := zf.f1
                  have y2 := zf.f2
                  clear zb zf
                  go_simp
                  have L4 := hide (L2.out.appR (by decide) I2.out hO3.out hg3.out)
                  have b4 := hide (b3.out.setCell (p := ⟨q2, 2, none⟩) (Nat.le_refl _) (.slice a3 (es.length + 1) c3))
                  refine hK.out _ _ trivial (fun hH4 => ?_)
                  clear hK K z0 z1 z2 y0 y1 y2
                  obtain ⟨w4, hw4⟩ : ∃ z9, z9 = w3.setCell ⟨q2, 2, none⟩ (.slice a3 (es.length + 1) c3) := ⟨_, rfl⟩
                  rw [← hw4] at L4 b4  ⊢
                  clear hw4
                  refine wpAnyH_done (by kernel_rfl) ?_ _
                  go_wp2_with fail
                  exact ⟨⟨k + 1, _, _, by simp, by omega, ⟨⟨KW2.out.1.of (b4.out.block q0 FQ.out.1), KW2.out.2.1.of (b4.out.block q1 FQ.out.2), KW2.out.2.2.of (b4.out.block q1 FQ.out.2)⟩, by rw [take_more HX.out]; exact L4.out, BW2.out.trans (b4.out.mono FQ2.out)⟩⟩, by simp [intOf]; omega⟩
        · go_simp
          go_at_call 58
          refine (cloneI l ai ci _ (HI.out _ b0.out) hlc hln hll).mono ?_
          rintro e w1 ⟨v9, rfl, hS⟩
          obtain ⟨ax, cx, rfl⟩ := hS.slice
          have hb1 := hS.bel
          have L1 := hide (L0.out.of hb1)
          have b1 := hide (b0.out.trans (hb1.mono (Nat.le_of_lt L0.out.bx.lt)))
          have I1 := hide (hS.owi (Nat.succ_le_of_lt L0.out.bx.lt))
          refine hK.out _ _ trivial (fun hH1 => ?_)
          clear hK K hb1 hS
          refine wpAnyH_ready (rs := [1, 4]) (by kernel_rfl) (by simp) ?_
          refine AllReadyH.cons (o := ({ dst := some 20, op := Op.load 23 (Operand.tmp 19), type := 23, pos := _, after := _, guard := _ } : Oper)) rfl (fun K hK => ?_) (AllReadyH.cons (o := ({ dst := some 23, op := Op.buildSlice 23 1 #[(0, Operand.tmp 22)], type := 23, pos := _, after := _, guard := _ } : Oper)) rfl (fun K hK => ?_) AllReadyH.nil)
          · have zc := L1.out.bx.c2
            go_simp
            refine hK.out _ _ hH1 (fun _ => ?_)
            clear hK K zc
            refine wpAnyH_ready (rs := [4]) (by kernel_rfl) (by simp) ?_
            refine AllReadyH.cons (o := ({ dst := some 23, op := Op.buildSlice 23 1 #[(0, Operand.tmp 22)], type := 23, pos := _, after := _, guard := _ } : Oper)) rfl (fun K hK => ?_) AllReadyH.nil
            · go_simp
              have hb2 : Below w1.heap.size w1 (w1.alloc (.cells #[(.slice ax l.length cx)] 38)) := (Below.refl _ _).alloc (Nat.le_refl _) _
              have L2 := hide (L1.out.of hb2)
              have b2 := hide (b1.out.trans (hb2.mono (Nat.le_of_lt L1.out.bx.lt)))
              have I2 := hide (I1.out.keep hb2)
              have Y2 := hide (C1.new w1 (.slice ax l.length cx) 38)
              refine hK.out _ _ trivial (fun hH2 => ?_)
              clear hK K hb2
              obtain ⟨w2, hw2⟩ : ∃ z9, z9 = (w1.alloc (.cells #[(.slice ax l.length cx)] 38)) := ⟨_, rfl⟩
              rw [← hw2] at L2 b2 Y2 I2 ⊢
              clear hw2
              generalize w1.heap.size = nc at *
              refine wpAnyH_ready (rs := [5]) (by kernel_rfl) (by simp) ?_
              refine AllReadyH.cons (o := ({ dst := some 24, op := Op.call { callee := Callee.builtin Builtin.append, args := #[Operand.tmp 20, Operand.tmp 23], argTypes := #[23, 23] }, type := 23, pos := _, after := _, guard := _ } : Oper)) rfl (fun K hK => ?_) AllReadyH.nil
              · refine wp_appR' w2 (q2 + 1) (.tmp 20) (.tmp 23) rfl _ es (.slice ax l.length cx) nc rfl L2.out.os Y2.out.c rfl rfl ?_ (Nat.succ_le_of_lt L2.out.bx.lt) ?_
                · (have t1 := L2.out.inn.1; dsimp only at t1; rw [List.length_take] at t1; omega)
                intro a3 c3 w3 hO3 hg3
                have b3 := hide (L2.out.belR b2.out hg3)
                refine hK.out _ _ trivial (fun hH3 => ?_)
                clear hK K
                replace hO3 := hide hO3
                replace hg3 := hide hg3
                refine wpAnyH_take (i := 6) (oi := ({ dst := some 25, op := Op.fieldAddr 29 (Operand.tmp 3) 2, type := 0, pos := _, after := _, guard := _ } : Oper)) (v := ?_) rfl (by kernel_rfl) (by kernel_rfl) (by kernel_rfl) (fun _ _ _ h => h) (Or.inl ⟨by rfl, ?_⟩) (by assumption) ?_
                rotate_left
                · (intro wz hSw; (try dsimp only at hSw); go_simp; try with_reducible rfl)
                simp only [Act.put, List.setIfInBounds_toArray, List.set_cons_zero, List.set_cons_succ]
                refine wpAnyH_ready (rs := [7]) (by kernel_rfl) (by simp) ?_
                refine AllReadyH.cons (o := ({ dst := none, op := Op.store 23 (Operand.tmp 25) (Operand.tmp 24), type := 0, pos := _, after := _, guard := _ } : Oper)) rfl (fun K hK => ?_) AllReadyH.nil
                · have zb := (L2.out.boxR hg3.out).1
                  have zf := (L2.out.boxR hg3.out).2
                  have z0 := zb.c0
                  have z1 := zb.c1
                  have z2 := zb.c2
                  have y0 := zf.f0
                  have y1 := zf.f1
                  have y2 := zf.f2
                  clear zb zf
                  go_simp
                  have L4 := hide (L2.out.appR (by decide) I2.out hO3.out hg3.out)
                  have b4 := hide (b3.out.setCell (p := ⟨q2, 2, none⟩) (Nat.le_refl _) (.slice a3 (es.length + 1) c3))
                  refine hK.out _ _ trivial (fun hH4 => ?_)
                  clear hK K z0 z1 z2 y0 y1 y2
                  obtain ⟨w4, hw4⟩ : ∃ z9, z9 = w3.setCell ⟨q2, 2, none⟩ (.slice a3 (es.length + 1) c3) := ⟨_, rfl⟩
                  rw [← hw4] at L4 b4  ⊢
                  clear hw4
                  refine wpAnyH_done (by kernel_rfl) ?_ _
                  go_wp2_with fail
                  exact ⟨⟨k + 1, _, _, by simp, by omega, ⟨⟨KW2.out.1.of (b4.out.block q0 FQ.out.1), KW2.out.2.1.of (b4.out.block q1 FQ.out.2), KW2.out.2.2.of (b4.out.block q1 FQ.out.2)⟩, by rw [take_more HX.out]; exact L4.out, BW2.out.trans (b4.out.mono FQ2.out)⟩⟩, by simp [intOf]; omega⟩
          · go_simp
            have hb2 : Below w1.heap.size w1 (w1.alloc (.cells #[(.slice ax l.length cx)] 38)) := (Below.refl _ _).alloc (Nat.le_refl _) _
            have L2 := hide (L1.out.of hb2)
            have b2 := hide (b1.out.trans (hb2.mono (Nat.le_of_lt L1.out.bx.lt)))
            have I2 := hide (I1.out.keep hb2)
            have Y2 := hide (C1.new w1 (.slice ax l.length cx) 38)
            refine hK.out _ _ trivial (fun hH2 => ?_)
            clear hK K hb2
            obtain ⟨w2, hw2⟩ : ∃ z9, z9 = (w1.alloc (.cells #[(.slice ax l.length cx)] 38)) := ⟨_, rfl⟩
            rw [← hw2] at L2 b2 Y2 I2 ⊢
            clear hw2
            generalize w1.heap.size = nc at *
            refine wpAnyH_ready (rs := [1]) (by kernel_rfl) (by simp) ?_
            refine AllReadyH.cons (o := ({ dst := some 20, op := Op.load 23 (Operand.tmp 19), type := 23, pos := _, after := _, guard := _ } : Oper)) rfl (fun K hK => ?_) AllReadyH.nil
            · have zc := L2.out.bx.c2
              go_simp
              refine hK.out _ _ hH2 (fun _ => ?_)
              clear hK K zc
              refine wpAnyH_ready (rs := [5]) (by kernel_rfl) (by simp) ?_
              refine AllReadyH.cons (o := ({ dst := some 24, op := Op.call { callee := Callee.builtin Builtin.append, args := #[Operand.tmp 20, Operand.tmp 23], argTypes := #[23, 23] }, type := 23, pos := _, after := _, guard := _ } : Oper)) rfl (fun K hK => ?_) AllReadyH.nil
              · refine wp_appR' w2 (q2 + 1) (.tmp 20) (.tmp 23) rfl _ es (.slice ax l.length cx) nc rfl L2.out.os Y2.out.c rfl rfl ?_ (Nat.succ_le_of_lt L2.out.bx.lt) ?_
                · (have t1 := L2.out.inn.1; dsimp only at t1; rw [List.length_take] at t1; omega)
                intro a3 c3 w3 hO3 hg3
                have b3 := hide (L2.out.belR b2.out hg3)
                refine hK.out _ _ trivial (fun hH3 => ?_)
                clear hK K
                replace hO3 := hide hO3
                replace hg3 := hide hg3
                refine wpAnyH_take (i := 6) (oi := ({ dst := some 25, op := Op.fieldAddr 29 (Operand.tmp 3) 2, type := 0, pos := _, after := _, guard := _ } : Oper)) (v := ?_) rfl (by kernel_rfl) (by kernel_rfl) (by kernel_rfl) (fun _ _ _ h => h) (Or.inl ⟨by rfl, ?_⟩) (by assumption) ?_
                rotate_left
                · (intro wz hSw; (try dsimp only at hSw); go_simp; try with_reducible rfl)
                simp only [Act.put, List.setIfInBounds_toArray, List.set_cons_zero, List.set_cons_succ]
                refine wpAnyH_ready (rs := [7]) (by kernel_rfl) (by simp) ?_
                refine AllReadyH.cons (o := ({ dst := none, op := Op.store 23 (Operand.tmp 25) (Operand.tmp 24), type := 0, pos := _, after := _, guard := _ } : Oper)) rfl (fun K hK => ?_) AllReadyH.nil
                · have zb := (L2.out.boxR hg3.out).1
                  have zf := (L2.out.boxR hg3.out).2
                  have z0 := zb.c0
                  have z1 := zb.c1
                  have z2 := zb.c2
                  have y0 := zf.f0
                  have y1 := zf.f1
                  have y2 := zf.f2
                  clear zb zf
                  go_simp
                  have L4 := hide (L2.out.appR (by decide) I2.out hO3.out hg3.out)
                  have b4 := hide (b3.out.setCell (p := ⟨q2, 2, none⟩) (Nat.le_refl _) (.slice a3 (es.length + 1) c3))
                  refine hK.out _ _ trivial (fun hH4 => ?_)
                  clear hK K z0 z1 z2 y0 y1 y2
                  obtain ⟨w4, hw4⟩ : ∃ z9, z9 = w3.setCell ⟨q2, 2, none⟩ (.slice a3 (es.length + 1) c3) := ⟨_, rfl⟩
                  rw [← hw4] at L4 b4  ⊢
                  clear hw4
                  refine wpAnyH_done (by kernel_rfl) ?_ _
                  go_wp2_with fail
                  exact ⟨⟨k + 1, _, _, by simp, by omega, ⟨⟨KW2.out.1.of (b4.out.block q0 FQ.out.1), KW2.out.2.1.of (b4.out.block q1 FQ.out.2), KW2.out.2.2.of (b4.out.block q1 FQ.out.2)⟩, by rw [take_more HX.out]; exact L4.out, BW2.out.trans (b4.out.mono FQ2.out)⟩⟩, by simp [intOf]; omega⟩
      · have hke : k = ss.length := by omega
        subst hke
        have h6 := h5.out
        rw [List.take_of_length_le (Nat.le_refl _)] at h6
        have h4 := hide h6
        clear h5 h6
        obtain ⟨a8, c8, rfl, -, -⟩ := h4.out.2.1.os.slice
        have e0 := h4.out.2.1.bx.c0
        have e1 := h4.out.2.1.bx.c1
        have e2 := h4.out.2.1.bx.c2
        have g0 := h4.out.1.2.1.c0
        have g1 := h4.out.1.2.1.c1
        have g2 := h4.out.1.2.1.c2
        have f0 := h4.out.1.2.2.f0
        have f1 := h4.out.1.2.2.f1
        have f2 := h4.out.1.2.2.f2
        have G1 := hide (And.intro (h4.out.1.2.1.put3 r (.slice a5 vs.length c5) (.slice a8 es.length c8)) (And.intro ((h4.out.2.1.far3 q1 r (.slice a5 vs.length c5) (.slice a8 es.length c8) (Nat.lt_succ_of_lt FQ.out.2) HN1.out (Nat.ne_of_lt FQ.out.2)).rn (N := w.heap.size) (by have := HQ.out; have := HN1.out; omega) (by have := FQ2.out; omega)) (st3_below h4.out.2.2 q1 HQ.out.1 r (.slice a5 vs.length c5) (.slice a8 es.length c8))))
        clear h4
        go_wp2_with fail
        have y0 := G1.out.1.c0
        have y1 := G1.out.1.c1
        have y2 := G1.out.1.c2
        clear e0 e1 e2 g0 g1 g2 f0 f1 f2
        exact bodyPost_ret (by simp [results, Try.results22, go_sem, y0, y1, y2]; try rfl) rfl ⟨_, rfl, G1.out.2.1, G1.out.2.2⟩
end Go.Proofs.Ytmhicllhjiglkaa
namespace Go.Proofs.Ytmhicllhjiglkaa
open Go.RowKit
/-- numbers that rise -/
def UpP (l : List Int) : Prop := l.Pairwise (· < ·)
theorem UpP.up {l : List Int} (h : UpP l) : Up l := fun i j hij hj => by
  have hi : i < l.length := by omega
  have := List.pairwise_iff_getElem.1 h i j hi hj hij
  simpa [hi, hj] using this
theorem UpP.ext {a b : List Int} (ha : UpP a) (hb : UpP b) (h : ∀ y, y ∈ a ↔ y ∈ b) : a = b := by
  induction a generalizing b with
  | nil =>
    cases b with
    | nil => rfl
    | cons y t => exact absurd ((h y).2 (by simp)) (by simp)
  | cons x s ih =>
    cases b with
    | nil => exact absurd ((h x).1 (by simp)) (by simp)
    | cons y t =>
      have h1 := List.pairwise_cons.1 ha
      have h2 := List.pairwise_cons.1 hb
      have e : x = y := by
        have m1 : x ∈ y :: t := (h x).1 (by simp)
        have m2 : y ∈ x :: s := (h y).2 (by simp)
        rcases List.mem_cons.1 m1 with e | m1
        · exact e
        · rcases List.mem_cons.1 m2 with e | m2
          · exact e.symm
          · have := h1.1 y m2
            have := h2.1 x m1
            omega
      subst e
      rw [ih h1.2 h2.2 (fun z => ⟨fun hz => by
        rcases List.mem_cons.1 ((h z).1 (by simp [hz])) with e | m
        · have := h1.1 z hz; omega
        · exact m, fun hz => by
        rcases List.mem_cons.1 ((h z).2 (by simp [hz])) with e | m
        · have := h2.1 z hz; omega
        · exact m⟩)]
theorem insert_up {out : List Int} {x : Int} {k : Nat} (h : UpP out) (hk : k ≤ out.length) (h1 : ∀ j, j < k → out.getD j 0 < x) (h2 : k < out.length → x < out.getD k 0) : UpP (out.take k ++ [x] ++ out.drop k) := by
  have p1 : (out.take k ++ out.drop k).Pairwise (· < ·) := by rw [List.take_append_drop]; exact h
  rw [List.pairwise_append] at p1
  have a1 : ∀ y ∈ out.take k, y < x := fun y hy => by
    obtain ⟨j, hj, rfl⟩ := List.getElem_of_mem hy
    have hj2 : j < k := by rw [List.length_take] at hj; omega
    have := h1 j hj2
    rw [List.getElem_take]
    simpa [show j < out.length by omega] using this
  have a2 : ∀ y ∈ out.drop k, x < y := fun y hy => by
    rcases Nat.lt_or_ge k out.length with t | t
    · have e : out.drop k = out.getD k 0 :: out.drop (k + 1) := by rw [List.drop_eq_getElem_cons t]; simp [t]
      rw [e] at hy p1
      rcases List.mem_cons.1 hy with rfl | hy
      · exact h2 t
      · have := (List.pairwise_cons.1 p1.2.1).1 y hy
        have := h2 t
        omega
    · rw [List.drop_of_length_le t] at hy; cases hy
  unfold UpP
  rw [List.pairwise_append, List.pairwise_append]
  refine ⟨⟨p1.1, List.pairwise_singleton _ _, fun y hy z hz => ?_⟩, p1.2.1, fun y hy z hz => ?_⟩
  · simp at hz; subst hz; exact a1 y hy
  · rcases List.mem_append.1 hy with hy | hy
    · exact p1.2.2 y hy z hz
    · simp at hy; subst hy; exact a2 z hz
theorem insert_mem (out : List Int) (x : Int) (k : Nat) (y : Int) : y ∈ out.take k ++ [x] ++ out.drop k ↔ y ∈ out ∨ y = x := by
  have : y ∈ out ↔ y ∈ out.take k ∨ y ∈ out.drop k := by rw [← List.mem_append, List.take_append_drop]
  rw [List.mem_append, List.mem_append, this]
  simp only [List.mem_singleton]
  constructor
  · rintro ((h | h) | h)
    · exact .inl (.inl h)
    · exact .inr h
    · exact .inl (.inr h)
  · rintro ((h | h) | h)
    · exact .inl (.inl h)
    · exact .inr h
    · exact .inl (.inr h)
theorem ri_takeN {w : World} {a : Option Addr} {zs : List Int} (h : Ri w a zs) (n : Nat) : Ri w a (zs.take n) := fun i x hx => h i x (by
  rw [List.getElem?_take] at hx
  split at hx
  · exact hx
  · exact absurd hx (by simp))
theorem ri_dropN {w : World} {b o : Nat} {zs : List Int} (h : Ri w (some ⟨b, o, none⟩) zs) (n : Nat) : Ri w (some ⟨b, o + n, none⟩) (zs.drop n) := fun i x hx => by
  rw [List.getElem?_drop] at hx
  obtain ⟨b2, o2, e, hc⟩ := h (n + i) x hx
  obtain ⟨rfl, rfl⟩ : b = b2 ∧ o = o2 := by simpa using e
  exact ⟨b, o + n, rfl, by rw [Nat.add_assoc]; exact hc⟩
end Go.Proofs.Ytmhicllhjiglkaa
