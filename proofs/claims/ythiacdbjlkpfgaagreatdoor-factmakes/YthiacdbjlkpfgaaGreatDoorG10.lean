import Derived.Test.YthiacdbjlkpfgaaGreatDoorG07
import Derived.Test.YthiacdbjlkpfgaaGreatDoorG08
import Derived.Test.YthiacdbjlkpfgaaGreatDoorG09
namespace Go.Proofs.YthiacdbjlkpfgaaGreatDoor
open Go.RowKit
set_option maxRecDepth 100000 in
set_option maxHeartbeats 16000000 in
theorem roner_V (op : Int) (x : V) (w : World) (hx : Sp (x.lo, x.hi)) : Calls Tryz.prog 7 #[.int .i64 op, .agg #[.int .i64 (up x.s), .bool x.k, .int .i64 x.n, .int .i64 x.lo, .int .i64 x.hi, .int .i64 (up x.p)]] w fun e w' => e = .returned (.tuple #[.agg #[.int .i64 (up (oneV op x).1.s), .bool (oneV op x).1.k, .int .i64 (oneV op x).1.n, .int .i64 (oneV op x).1.lo, .int .i64 (oneV op x).1.hi, .int .i64 (up (oneV op x).1.p)], .bool (oneV op x).2]) ∧ Below w.heap.size w w' := by
  have HR : Hid (someV ⟨oneS op x.s, oneI op x.k, oneN op x.k x.n, (oneP op (x.lo, x.hi)).1.1, (oneP op (x.lo, x.hi)).1.2, oneQ op x.p⟩ (oneOk op && (oneP op (x.lo, x.hi)).2) = oneV op x) := rfl
  generalize oneV op x = r at *
  have c1 := fun w => koner_any op x.k x.n w
  have c2 := fun w => oner_any op (x.lo, x.hi) w hx
  have c3 := fun w => srone_any op (up x.s) w
  have c4 := fun w => bel0 (poner_any op (up x.p) w)
  simp only [low_up] at c3 c4
  dsimp only at c2
  clear hx
  generalize oneP op (x.lo, x.hi) = m at *
  generalize oneOk op = t1 at *
  generalize oneI op x.k = mI at *
  generalize oneN op x.k x.n = mN at *
  generalize oneS op x.s = gs at *
  generalize oneQ op x.p = gp at *
  have x0 : Br ((w.alloc (.cells #[.int .i64 (up x.s), .bool x.k, .int .i64 x.n, .int .i64 x.lo, .int .i64 x.hi, .int .i64 (up x.p)] 27)).alloc (.cells #[.int .i64 0, .bool false, .int .i64 0, .int .i64 0, .int .i64 0, .int .i64 0] 27)) (w.heap.size) (up x.s) x.k x.n x.lo x.hi (up x.p) := ((Br.new w (up x.s) x.k x.n x.lo x.hi (up x.p) 27)).keep ((Below.refl _ _).alloc (Nat.le_refl _) _)
  have x1 : Br ((w.alloc (.cells #[.int .i64 (up x.s), .bool x.k, .int .i64 x.n, .int .i64 x.lo, .int .i64 x.hi, .int .i64 (up x.p)] 27)).alloc (.cells #[.int .i64 0, .bool false, .int .i64 0, .int .i64 0, .int .i64 0, .int .i64 0] 27)) (w.heap.size + 1) 0 false 0 0 0 0 := (by simpa using Br.new (w.alloc (.cells #[.int .i64 (up x.s), .bool x.k, .int .i64 x.n, .int .i64 x.lo, .int .i64 x.hi, .int .i64 (up x.p)] 27)) 0 false 0 0 0 0 27 : Br ((w.alloc (.cells #[.int .i64 (up x.s), .bool x.k, .int .i64 x.n, .int .i64 x.lo, .int .i64 x.hi, .int .i64 (up x.p)] 27)).alloc (.cells #[.int .i64 0, .bool false, .int .i64 0, .int .i64 0, .int .i64 0, .int .i64 0] 27)) (w.heap.size + 1) 0 false 0 0 0 0)
  have xf : Fz ((w.alloc (.cells #[.int .i64 (up x.s), .bool x.k, .int .i64 x.n, .int .i64 x.lo, .int .i64 x.hi, .int .i64 (up x.p)] 27)).alloc (.cells #[.int .i64 0, .bool false, .int .i64 0, .int .i64 0, .int .i64 0, .int .i64 0] 27)) (w.heap.size + 1) := by simpa using Fz.new (w.alloc (.cells #[.int .i64 (up x.s), .bool x.k, .int .i64 x.n, .int .i64 x.lo, .int .i64 x.hi, .int .i64 (up x.p)] 27)) 0 false 0 0 0 0 27
  have xb : Below w.heap.size w ((w.alloc (.cells #[.int .i64 (up x.s), .bool x.k, .int .i64 x.n, .int .i64 x.lo, .int .i64 x.hi, .int .i64 (up x.p)] 27)).alloc (.cells #[.int .i64 0, .bool false, .int .i64 0, .int .i64 0, .int .i64 0, .int .i64 0] 27)) := (by repeat (first | exact Below.refl _ _ | (refine Below.drew ?_) | (refine below_drewN ?_ _) | (refine Below.setCell ?_ (by first | omega | (simp; done) | (simp; omega)) _) | (refine Below.alloc ?_ (by first | omega | (simp; done) | (simp; omega)) _) | (refine Below.trans ?_ (Below.mono (by assumption) (by first | omega | (simp; done) | (simp; omega))))))
  go_enter Tryz.func7, Tryz.ntmps7
  go_upto_region 1 with fail
  go_name_world W hW
  rw [hW] at x0 x1 xf xb
  clear hW
  obtain ⟨N, hN⟩ : ∃ N, N = w.heap.size := ⟨_, rfl⟩
  rw [← hN] at x0 x1 xf xb ⊢
  have HN : Hid (N = w.heap.size) := hN
  clear hN
  have HA := hide (And.intro x0 (And.intro x1 (And.intro xf xb)))
  clear x0 x1 xf xb
  have a0 := HA.out.1.c0
  have a1 := HA.out.1.c1
  have a2 := HA.out.1.c2
  have a3 := HA.out.1.c3
  have a4 := HA.out.1.c4
  have a5 := HA.out.1.c5
  go_upto_region 2 with (go_at_call 23; refine (c1 _).mono ?_; rintro e wK ⟨rfl, hK⟩)
  go_name_world W2 hW2
  have HB : Hid (Br W2 N (up x.s) x.k x.n x.lo x.hi (up x.p) ∧ Br W2 (N + 1) 0 false 0 0 0 0 ∧ Fz W2 (N + 1) ∧ Below N w W2 ∧ K2 W2 wK.heap.size mI mN ∧ (N + 1) < wK.heap.size) := by
    rw [← hW2]
    have k0 := HA.out.1.keep hK
    have k1 := HA.out.2.1.keep hK
    have kf := HA.out.2.2.1.keep HA.out.2.1.lt hK
    have kb := HA.out.2.2.2.trans (hK.mono (Nat.le_of_lt HA.out.1.lt))
    exact ⟨k0.keep ((Below.refl _ _).alloc (Nat.le_refl _) _), k1.keep ((Below.refl _ _).alloc (Nat.le_refl _) _), kf.keep k1.lt ((Below.refl _ _).alloc (Nat.le_refl _) _), kb.alloc (Nat.le_of_lt k0.lt) _, K2.new _ _ _ _, k1.lt⟩
  clear hW2 hK HA c1 a0 a1 a2 a3 a4 a5
  generalize wK.heap.size = T6 at *
  have a0 := HB.out.1.c0
  have a1 := HB.out.1.c1
  have a2 := HB.out.1.c2
  have a3 := HB.out.1.c3
  have a4 := HB.out.1.c4
  have a5 := HB.out.1.c5
  go_upto_region 3 with (go_at_call 24; refine (c2 _).mono ?_; rintro e wK ⟨rfl, hK⟩)
  go_name_world W3 hW3
  have HC : Hid (Br W3 N (up x.s) x.k x.n x.lo x.hi (up x.p) ∧ Br W3 (N + 1) 0 false 0 0 0 0 ∧ Fz W3 (N + 1) ∧ Below N w W3 ∧ K2 W3 T6 mI mN ∧ S2 W3 wK.heap.size m.1.1 m.1.2 ∧ (N + 1) < T6 ∧ (N + 1) < wK.heap.size) := by
    rw [← hW3]
    have k0 := HB.out.1.keep hK
    have k1 := HB.out.2.1.keep hK
    have kf := HB.out.2.2.1.keep HB.out.2.1.lt hK
    have kb := HB.out.2.2.2.1.trans (hK.mono (Nat.le_of_lt HB.out.1.lt))
    have k5 := (HB.out.2.2.2.2.1).keep hK
    exact ⟨k0.keep ((Below.refl _ _).alloc (Nat.le_refl _) _), k1.keep ((Below.refl _ _).alloc (Nat.le_refl _) _), kf.keep k1.lt ((Below.refl _ _).alloc (Nat.le_refl _) _), kb.alloc (Nat.le_of_lt k0.lt) _, k5.keep ((Below.refl _ _).alloc (Nat.le_refl _) _), S2.new _ _ _ _, HB.out.2.2.2.2.2, k1.lt⟩
  clear hW3 hK HB c2 a0 a1 a2 a3 a4 a5
  generalize wK.heap.size = T8 at *
  have HCL : Hid (∀ a b : World, (a.cell? ⟨N, 0, none⟩ = some (.int .i64 (up x.s)) ∧ a.cell? ⟨N, 5, none⟩ = some (.int .i64 (up x.p)) ∧ a.cell? ⟨T6, 0, none⟩ = some (.bool mI) ∧ a.cell? ⟨T6, 1, none⟩ = some (.int .i64 mN) ∧ a.cell? ⟨T8, 0, none⟩ = some (.int .i64 m.1.1) ∧ a.cell? ⟨T8, 1, none⟩ = some (.int .i64 m.1.2) ∧ Hid (Br a N (up x.s) x.k x.n x.lo x.hi (up x.p) ∧ Rw a (N + 1) ∧ Below N w a ∧ K2 a T6 mI mN ∧ S2 a T8 m.1.1 m.1.2 ∧ (N + 1) < T6 ∧ (N + 1) < T8)) → Below a.heap.size a b → (b.cell? ⟨N, 0, none⟩ = some (.int .i64 (up x.s)) ∧ b.cell? ⟨N, 5, none⟩ = some (.int .i64 (up x.p)) ∧ b.cell? ⟨T6, 0, none⟩ = some (.bool mI) ∧ b.cell? ⟨T6, 1, none⟩ = some (.int .i64 mN) ∧ b.cell? ⟨T8, 0, none⟩ = some (.int .i64 m.1.1) ∧ b.cell? ⟨T8, 1, none⟩ = some (.int .i64 m.1.2) ∧ Hid (Br b N (up x.s) x.k x.n x.lo x.hi (up x.p) ∧ Rw b (N + 1) ∧ Below N w b ∧ K2 b T6 mI mN ∧ S2 b T8 m.1.1 m.1.2 ∧ (N + 1) < T6 ∧ (N + 1) < T8))) := fun a b h hb => by
    have y9 := (h.2.2.2.2.2.2).out
    have z9 : Br b N (up x.s) x.k x.n x.lo x.hi (up x.p) ∧ Rw b (N + 1) ∧ Below N w b ∧ K2 b T6 mI mN ∧ S2 b T8 m.1.1 m.1.2 ∧ (N + 1) < T6 ∧ (N + 1) < T8 := ⟨y9.1.keep hb, y9.2.1.keep hb, y9.2.2.1.trans (hb.mono (Nat.le_of_lt y9.1.lt)), y9.2.2.2.1.keep hb, y9.2.2.2.2.1.keep hb, y9.2.2.2.2.2.1, y9.2.2.2.2.2.2⟩
    exact ⟨z9.1.c0, z9.1.c5, z9.2.2.2.1.1, z9.2.2.2.1.2, z9.2.2.2.2.1.1, z9.2.2.2.2.1.2, z9⟩
  have HST : Hid (∀ a : World, (a.cell? ⟨N, 0, none⟩ = some (.int .i64 (up x.s)) ∧ a.cell? ⟨N, 5, none⟩ = some (.int .i64 (up x.p)) ∧ a.cell? ⟨T6, 0, none⟩ = some (.bool mI) ∧ a.cell? ⟨T6, 1, none⟩ = some (.int .i64 mN) ∧ a.cell? ⟨T8, 0, none⟩ = some (.int .i64 m.1.1) ∧ a.cell? ⟨T8, 1, none⟩ = some (.int .i64 m.1.2) ∧ Hid (Br a N (up x.s) x.k x.n x.lo x.hi (up x.p) ∧ Rw a (N + 1) ∧ Below N w a ∧ K2 a T6 mI mN ∧ S2 a T8 m.1.1 m.1.2 ∧ (N + 1) < T6 ∧ (N + 1) < T8)) → ((st6 a (N + 1) (.int .i64 (up r.1.s)) (.bool r.1.k) (.int .i64 r.1.n) (.int .i64 r.1.lo) (.int .i64 r.1.hi) (.int .i64 (up r.1.p))).cell? ⟨N, 0, none⟩ = some (.int .i64 (up x.s)) ∧ (st6 a (N + 1) (.int .i64 (up r.1.s)) (.bool r.1.k) (.int .i64 r.1.n) (.int .i64 r.1.lo) (.int .i64 r.1.hi) (.int .i64 (up r.1.p))).cell? ⟨N, 5, none⟩ = some (.int .i64 (up x.p)) ∧ (st6 a (N + 1) (.int .i64 (up r.1.s)) (.bool r.1.k) (.int .i64 r.1.n) (.int .i64 r.1.lo) (.int .i64 r.1.hi) (.int .i64 (up r.1.p))).cell? ⟨T6, 0, none⟩ = some (.bool mI) ∧ (st6 a (N + 1) (.int .i64 (up r.1.s)) (.bool r.1.k) (.int .i64 r.1.n) (.int .i64 r.1.lo) (.int .i64 r.1.hi) (.int .i64 (up r.1.p))).cell? ⟨T6, 1, none⟩ = some (.int .i64 mN) ∧ (st6 a (N + 1) (.int .i64 (up r.1.s)) (.bool r.1.k) (.int .i64 r.1.n) (.int .i64 r.1.lo) (.int .i64 r.1.hi) (.int .i64 (up r.1.p))).cell? ⟨T8, 0, none⟩ = some (.int .i64 m.1.1) ∧ (st6 a (N + 1) (.int .i64 (up r.1.s)) (.bool r.1.k) (.int .i64 r.1.n) (.int .i64 r.1.lo) (.int .i64 r.1.hi) (.int .i64 (up r.1.p))).cell? ⟨T8, 1, none⟩ = some (.int .i64 m.1.2) ∧ Hid (Br (st6 a (N + 1) (.int .i64 (up r.1.s)) (.bool r.1.k) (.int .i64 r.1.n) (.int .i64 r.1.lo) (.int .i64 r.1.hi) (.int .i64 (up r.1.p))) N (up x.s) x.k x.n x.lo x.hi (up x.p) ∧ Rw (st6 a (N + 1) (.int .i64 (up r.1.s)) (.bool r.1.k) (.int .i64 r.1.n) (.int .i64 r.1.lo) (.int .i64 r.1.hi) (.int .i64 (up r.1.p))) (N + 1) ∧ Below N w (st6 a (N + 1) (.int .i64 (up r.1.s)) (.bool r.1.k) (.int .i64 r.1.n) (.int .i64 r.1.lo) (.int .i64 r.1.hi) (.int .i64 (up r.1.p))) ∧ K2 (st6 a (N + 1) (.int .i64 (up r.1.s)) (.bool r.1.k) (.int .i64 r.1.n) (.int .i64 r.1.lo) (.int .i64 r.1.hi) (.int .i64 (up r.1.p))) T6 mI mN ∧ S2 (st6 a (N + 1) (.int .i64 (up r.1.s)) (.bool r.1.k) (.int .i64 r.1.n) (.int .i64 r.1.lo) (.int .i64 r.1.hi) (.int .i64 (up r.1.p))) T8 m.1.1 m.1.2 ∧ (N + 1) < T6 ∧ (N + 1) < T8))) := fun a h => by
    have y9 := (h.2.2.2.2.2.2).out
    have g1 := y9.2.2.2.2.2.1
    have g2 := y9.2.2.2.2.2.2
    have z9 : Br (st6 a (N + 1) (.int .i64 (up r.1.s)) (.bool r.1.k) (.int .i64 r.1.n) (.int .i64 r.1.lo) (.int .i64 r.1.hi) (.int .i64 (up r.1.p))) N (up x.s) x.k x.n x.lo x.hi (up x.p) ∧ Rw (st6 a (N + 1) (.int .i64 (up r.1.s)) (.bool r.1.k) (.int .i64 r.1.n) (.int .i64 r.1.lo) (.int .i64 r.1.hi) (.int .i64 (up r.1.p))) (N + 1) ∧ Below N w (st6 a (N + 1) (.int .i64 (up r.1.s)) (.bool r.1.k) (.int .i64 r.1.n) (.int .i64 r.1.lo) (.int .i64 r.1.hi) (.int .i64 (up r.1.p))) ∧ K2 (st6 a (N + 1) (.int .i64 (up r.1.s)) (.bool r.1.k) (.int .i64 r.1.n) (.int .i64 r.1.lo) (.int .i64 r.1.hi) (.int .i64 (up r.1.p))) T6 mI mN ∧ S2 (st6 a (N + 1) (.int .i64 (up r.1.s)) (.bool r.1.k) (.int .i64 r.1.n) (.int .i64 r.1.lo) (.int .i64 r.1.hi) (.int .i64 (up r.1.p))) T8 m.1.1 m.1.2 ∧ (N + 1) < T6 ∧ (N + 1) < T8 := ⟨y9.1.put (by omega) _ _ _ _ _ _, y9.2.1.put (up r.1.s) r.1.k r.1.n r.1.lo r.1.hi (up r.1.p), st6_below y9.2.2.1 _ (by omega) _ _ _ _ _ _, y9.2.2.2.1.put (by omega) _ _ _ _ _ _, y9.2.2.2.2.1.put (by omega) _ _ _ _ _ _, g1, g2⟩
    exact ⟨z9.1.c0, z9.1.c5, z9.2.2.2.1.1, z9.2.2.2.1.2, z9.2.2.2.2.1.1, z9.2.2.2.2.1.2, z9⟩
  have z0 : Br W3 N (up x.s) x.k x.n x.lo x.hi (up x.p) ∧ Rw W3 (N + 1) ∧ Below N w W3 ∧ K2 W3 T6 mI mN ∧ S2 W3 T8 m.1.1 m.1.2 ∧ (N + 1) < T6 ∧ (N + 1) < T8 := ⟨HC.out.1, ⟨_, _, _, _, _, _, HC.out.2.1, HC.out.2.2.1⟩, HC.out.2.2.2.1, HC.out.2.2.2.2.1, HC.out.2.2.2.2.2.1, HC.out.2.2.2.2.2.2.1, HC.out.2.2.2.2.2.2.2⟩
  have hS0 : W3.cell? ⟨N, 0, none⟩ = some (.int .i64 (up x.s)) ∧ W3.cell? ⟨N, 5, none⟩ = some (.int .i64 (up x.p)) ∧ W3.cell? ⟨T6, 0, none⟩ = some (.bool mI) ∧ W3.cell? ⟨T6, 1, none⟩ = some (.int .i64 mN) ∧ W3.cell? ⟨T8, 0, none⟩ = some (.int .i64 m.1.1) ∧ W3.cell? ⟨T8, 1, none⟩ = some (.int .i64 m.1.2) ∧ Hid (Br W3 N (up x.s) x.k x.n x.lo x.hi (up x.p) ∧ Rw W3 (N + 1) ∧ Below N w W3 ∧ K2 W3 T6 mI mN ∧ S2 W3 T8 m.1.1 m.1.2 ∧ (N + 1) < T6 ∧ (N + 1) < T8) := ⟨z0.1.c0, z0.1.c5, z0.2.2.2.1.1, z0.2.2.2.1.2, z0.2.2.2.2.1.1, z0.2.2.2.2.1.2, z0⟩
  clear z0 HC
  have c5 := fun w => allr_V ⟨gs, mI, mN, m.1.1, m.1.2, gp⟩ t1 m.2 w
  rw [HR.out] at c5
  refine wp_region_held_drew (S := fun w' => w'.cell? ⟨N, 0, none⟩ = some (.int .i64 (up x.s)) ∧ w'.cell? ⟨N, 5, none⟩ = some (.int .i64 (up x.p)) ∧ w'.cell? ⟨T6, 0, none⟩ = some (.bool mI) ∧ w'.cell? ⟨T6, 1, none⟩ = some (.int .i64 mN) ∧ w'.cell? ⟨T8, 0, none⟩ = some (.int .i64 m.1.1) ∧ w'.cell? ⟨T8, 1, none⟩ = some (.int .i64 m.1.2) ∧ Hid (Br w' N (up x.s) x.k x.n x.lo x.hi (up x.p) ∧ Rw w' (N + 1) ∧ Below N w w' ∧ K2 w' T6 mI mN ∧ S2 w' T8 m.1.1 m.1.2 ∧ (N + 1) < T6 ∧ (N + 1) < T8)) (by kernel_rfl) (HCL.out _ _ hS0 ((Below.refl _ _).drew)) (fun hHeld => ?_)
  refine wpAnyH_take (i := 0) (oi := ({ dst := some 24, op := Op.move (Operand.tmp 0), type := 3, pos := "ref.go:83", after := #[], guard := none } : Oper)) (v := ?_) rfl (by kernel_rfl) (by kernel_rfl) (by kernel_rfl) (fun _ _ _ h => h) (Or.inl ⟨by rfl, ?_⟩) (by assumption) ?_
  rotate_left
  · (intro wz hSw; (try dsimp only at hSw); go_simp; try with_reducible rfl)
  simp only [Act.put, List.setIfInBounds_toArray, List.set_cons_zero, List.set_cons_succ]
  refine wpAnyH_take (i := 1) (oi := ({ dst := some 25, op := Op.fieldAddr 27 (Operand.tmp 3) 0, type := 0, pos := "ref.go:83", after := #[], guard := none } : Oper)) (v := ?_) rfl (by kernel_rfl) (by kernel_rfl) (by kernel_rfl) (fun _ _ _ h => h) (Or.inl ⟨by rfl, ?_⟩) (by assumption) ?_
  rotate_left
  · (intro wz hSw; (try dsimp only at hSw); go_simp; try with_reducible rfl)
  simp only [Act.put, List.setIfInBounds_toArray, List.set_cons_zero, List.set_cons_succ]
  refine wpAnyH_take (i := 2) (oi := ({ dst := some 26, op := Op.load 3 (Operand.tmp 25), type := 3, pos := "ref.go:83", after := #[{ on := 1, ground := Ground.data }], guard := none } : Oper)) (v := ?_) rfl (by kernel_rfl) (by kernel_rfl) (by kernel_rfl) (fun _ _ _ h => h) (Or.inl ⟨by rfl, ?_⟩) (by assumption) ?_
  rotate_left
  · (intro wz hSw; (try dsimp only at hSw); go_simp; try with_reducible rfl)
  simp only [Act.put, List.setIfInBounds_toArray, List.set_cons_zero, List.set_cons_succ]
  refine wpAnyH_take (i := 4) (oi := ({ dst := some 28, op := Op.load 23 (Operand.tmp 6), type := 23, pos := "ref.go:83", after := #[], guard := none } : Oper)) (v := ?_) rfl (by kernel_rfl) (by kernel_rfl) (by kernel_rfl) (fun _ _ _ h => h) (Or.inl ⟨by rfl, ?_⟩) (by assumption) ?_
  rotate_left
  · (intro wz hSw; (try dsimp only at hSw); go_simp; try with_reducible rfl)
  simp only [Act.put, List.setIfInBounds_toArray, List.set_cons_zero, List.set_cons_succ]
  refine wpAnyH_take (i := 5) (oi := ({ dst := some 29, op := Op.load 25 (Operand.tmp 8), type := 25, pos := "ref.go:83", after := #[], guard := none } : Oper)) (v := ?_) rfl (by kernel_rfl) (by kernel_rfl) (by kernel_rfl) (fun _ _ _ h => h) (Or.inl ⟨by rfl, ?_⟩) (by assumption) ?_
  rotate_left
  · (intro wz hSw; (try dsimp only at hSw); go_simp; try with_reducible rfl)
  simp only [Act.put, List.setIfInBounds_toArray, List.set_cons_zero, List.set_cons_succ]
  refine wpAnyH_take (i := 6) (oi := ({ dst := some 30, op := Op.move (Operand.tmp 0), type := 3, pos := "ref.go:83", after := #[], guard := none } : Oper)) (v := ?_) rfl (by kernel_rfl) (by kernel_rfl) (by kernel_rfl) (fun _ _ _ h => h) (Or.inl ⟨by rfl, ?_⟩) (by assumption) ?_
  rotate_left
  · (intro wz hSw; (try dsimp only at hSw); go_simp; try with_reducible rfl)
  simp only [Act.put, List.setIfInBounds_toArray, List.set_cons_zero, List.set_cons_succ]
  refine wpAnyH_take (i := 7) (oi := ({ dst := some 31, op := Op.fieldAddr 27 (Operand.tmp 3) 3, type := 0, pos := "ref.go:83", after := #[], guard := none } : Oper)) (v := ?_) rfl (by kernel_rfl) (by kernel_rfl) (by kernel_rfl) (fun _ _ _ h => h) (Or.inl ⟨by rfl, ?_⟩) (by assumption) ?_
  rotate_left
  · (intro wz hSw; (try dsimp only at hSw); go_simp; try with_reducible rfl)
  simp only [Act.put, List.setIfInBounds_toArray, List.set_cons_zero, List.set_cons_succ]
  refine wpAnyH_take (i := 8) (oi := ({ dst := some 32, op := Op.load 3 (Operand.tmp 31), type := 3, pos := "ref.go:83", after := #[{ on := 7, ground := Ground.data }], guard := none } : Oper)) (v := ?_) rfl (by kernel_rfl) (by kernel_rfl) (by kernel_rfl) (fun _ _ _ h => h) (Or.inl ⟨by rfl, ?_⟩) (by assumption) ?_
  rotate_left
  · (intro wz hSw; (try dsimp only at hSw); go_simp; try with_reducible rfl)
  simp only [Act.put, List.setIfInBounds_toArray, List.set_cons_zero, List.set_cons_succ]
  refine wpAnyH_take (i := 11) (oi := ({ dst := some 35, op := Op.move (Operand.tmp 7), type := 4, pos := "ref.go:83", after := #[], guard := none } : Oper)) (v := ?_) rfl (by kernel_rfl) (by kernel_rfl) (by kernel_rfl) (fun _ _ _ h => h) (Or.inl ⟨by rfl, ?_⟩) (by assumption) ?_
  rotate_left
  · (intro wz hSw; (try dsimp only at hSw); go_simp; try with_reducible rfl)
  simp only [Act.put, List.setIfInBounds_toArray, List.set_cons_zero, List.set_cons_succ]
  refine wpAnyH_take (i := 12) (oi := ({ dst := some 36, op := Op.move (Operand.tmp 9), type := 4, pos := "ref.go:83", after := #[], guard := none } : Oper)) (v := ?_) rfl (by kernel_rfl) (by kernel_rfl) (by kernel_rfl) (fun _ _ _ h => h) (Or.inl ⟨by rfl, ?_⟩) (by assumption) ?_
  rotate_left
  · (intro wz hSw; (try dsimp only at hSw); go_simp; try with_reducible rfl)
  simp only [Act.put, List.setIfInBounds_toArray, List.set_cons_zero, List.set_cons_succ]
  refine wpAnyH_ready (rs := [3]) (by kernel_rfl) (by simp) ?_
  refine AllReadyH.cons (o := ({ dst := some 27, op := Op.call { callee := Callee.value (Operand.func 26), args := #[Operand.tmp 24, Operand.tmp 26], argTypes := #[3, 3] }, type := 3, pos := "ref.go:83", after := #[{ on := 0, ground := Ground.data }, { on := 2, ground := Ground.data }], guard := none } : Oper)) rfl (fun K hK => ?_) AllReadyH.nil
  go_simp
  go_at_call 26
  refine (lift (c3 _) (by assumption) HCL.out).mono ?_
  rintro e v1 ⟨rfl, g1⟩
  clear hHeld
  refine hK.out _ _ g1 (fun hHeld => ?_)
  clear hK K
  refine wpAnyH_ready (rs := [9]) (by kernel_rfl) (by simp) ?_
  refine AllReadyH.cons (o := ({ dst := some 33, op := Op.call { callee := Callee.value (Operand.func 27), args := #[Operand.tmp 30, Operand.tmp 32], argTypes := #[3, 3] }, type := 3, pos := "ref.go:83", after := #[{ on := 6, ground := Ground.data }, { on := 8, ground := Ground.data }, { on := 3, ground := Ground.chain }], guard := none } : Oper)) rfl (fun K hK => ?_) AllReadyH.nil
  go_simp
  go_at_call 27
  refine (lift (c4 _) (by assumption) HCL.out).mono ?_
  rintro e v2 ⟨rfl, g2⟩
  clear hHeld g1
  refine hK.out _ _ g2 (fun hHeld => ?_)
  clear hK K
  refine wpAnyH_take (i := 10) (oi := ({ dst := some 34, op := Op.build 27 #[(0, Operand.tmp 27), (1, Operand.tmp 28), (2, Operand.tmp 29), (3, Operand.tmp 33)], type := 27, pos := "ref.go:83", after := #[{ on := 3, ground := Ground.data }, { on := 4, ground := Ground.data }, { on := 5, ground := Ground.data }, { on := 9, ground := Ground.data }], guard := none } : Oper)) (v := ?_) rfl (by kernel_rfl) (by kernel_rfl) (by kernel_rfl) (fun _ _ _ h => h) (Or.inl ⟨by rfl, ?_⟩) (by assumption) ?_
  rotate_left
  · (intro wz hSw; (try dsimp only at hSw); go_simp; try with_reducible rfl)
  simp only [Act.put, List.setIfInBounds_toArray, List.set_cons_zero, List.set_cons_succ]
  refine wpAnyH_ready (rs := [13]) (by kernel_rfl) (by simp) ?_
  refine AllReadyH.cons (o := ({ dst := some 37, op := Op.call { callee := Callee.value (Operand.func 25), args := #[Operand.tmp 34, Operand.tmp 35, Operand.tmp 36], argTypes := #[27, 4, 4] }, type := 36, pos := "ref.go:83", after := #[{ on := 10, ground := Ground.data }, { on := 11, ground := Ground.data }, { on := 12, ground := Ground.data }, { on := 9, ground := Ground.chain }], guard := none } : Oper)) rfl (fun K hK => ?_) AllReadyH.nil
  go_simp
  go_at_call 25
  refine (lift (c5 _) (by assumption) HCL.out).mono ?_
  rintro e v3 ⟨rfl, g3⟩
  clear hHeld g2
  refine hK.out _ _ g3 (fun hHeld => ?_)
  clear hK K
  refine wpAnyH_take (i := 14) (oi := ({ dst := some 38, op := Op.extract (Operand.tmp 37) 0, type := 27, pos := "ref.go:83", after := #[{ on := 13, ground := Ground.data }], guard := none } : Oper)) (v := ?_) rfl (by kernel_rfl) (by kernel_rfl) (by kernel_rfl) (fun _ _ _ h => h) (Or.inl ⟨by rfl, ?_⟩) (by assumption) ?_
  rotate_left
  · (intro wz hSw; (try dsimp only at hSw); go_simp; try with_reducible rfl)
  simp only [Act.put, List.setIfInBounds_toArray, List.set_cons_zero, List.set_cons_succ]
  refine wpAnyH_take (i := 15) (oi := ({ dst := some 39, op := Op.extract (Operand.tmp 37) 1, type := 4, pos := "ref.go:83", after := #[{ on := 13, ground := Ground.data }], guard := none } : Oper)) (v := ?_) rfl (by kernel_rfl) (by kernel_rfl) (by kernel_rfl) (fun _ _ _ h => h) (Or.inl ⟨by rfl, ?_⟩) (by assumption) ?_
  rotate_left
  · (intro wz hSw; (try dsimp only at hSw); go_simp; try with_reducible rfl)
  simp only [Act.put, List.setIfInBounds_toArray, List.set_cons_zero, List.set_cons_succ]
  refine wpAnyH_ready (rs := [16]) (by kernel_rfl) (by simp) ?_
  refine AllReadyH.cons (o := ({ dst := none, op := Op.store 27 (Operand.tmp 4) (Operand.tmp 38), type := 0, pos := "ref.go:83", after := #[{ on := 14, ground := Ground.data }, { on := 13, ground := Ground.chain }, { on := 0, ground := Ground.phase }, { on := 1, ground := Ground.phase }, { on := 2, ground := Ground.phase }, { on := 3, ground := Ground.phase }, { on := 4, ground := Ground.phase }, { on := 5, ground := Ground.phase }, { on := 6, ground := Ground.phase }, { on := 7, ground := Ground.phase }, { on := 8, ground := Ground.phase }, { on := 9, ground := Ground.phase }, { on := 10, ground := Ground.phase }, { on := 11, ground := Ground.phase }, { on := 12, ground := Ground.phase }, { on := 13, ground := Ground.phase }, { on := 14, ground := Ground.phase }, { on := 15, ground := Ground.phase }], guard := none } : Oper)) rfl (fun K hK => ?_) AllReadyH.nil
  have zz := (hHeld.2.2.2.2.2.2).out
  obtain ⟨s9, k9, n9, lo9, hi9, p9, zb, zf⟩ := zz.2.1
  have zc0 := zb.c0
  have zf0 := zf.f0
  have zc1 := zb.c1
  have zf1 := zf.f1
  have zc2 := zb.c2
  have zf2 := zf.f2
  have zc3 := zb.c3
  have zf3 := zf.f3
  have zc4 := zb.c4
  have zf4 := zf.f4
  have zc5 := zb.c5
  have zf5 := zf.f5
  go_simp
  have zw := zb.wrote (up r.1.s) r.1.k r.1.n r.1.lo r.1.hi (up r.1.p)
  have hZ := st6_below zz.2.2.1 (N + 1) (by omega) (.int .i64 (up r.1.s)) (.bool r.1.k) (.int .i64 r.1.n) (.int .i64 r.1.lo) (.int .i64 r.1.hi) (.int .i64 (up r.1.p))
  refine hK.out _ _ (HST.out _ hHeld) (fun _ => ?_)
  clear hK K zc0 zf0 zc1 zf1 zc2 zf2 zc3 zf3 zc4 zf4 zc5 zf5
  refine wpAnyH_take (i := 17) (oi := ({ dst := some 5, op := Op.assign (Operand.tmp 39), type := 4, pos := "ref.go:83", after := #[{ on := 15, ground := Ground.data }, { on := 16, ground := Ground.chain }, { on := 0, ground := Ground.phase }, { on := 1, ground := Ground.phase }, { on := 2, ground := Ground.phase }, { on := 3, ground := Ground.phase }, { on := 4, ground := Ground.phase }, { on := 5, ground := Ground.phase }, { on := 6, ground := Ground.phase }, { on := 7, ground := Ground.phase }, { on := 8, ground := Ground.phase }, { on := 9, ground := Ground.phase }, { on := 10, ground := Ground.phase }, { on := 11, ground := Ground.phase }, { on := 12, ground := Ground.phase }, { on := 13, ground := Ground.phase }, { on := 14, ground := Ground.phase }, { on := 15, ground := Ground.phase }, { on := 16, ground := Ground.phase }], guard := none } : Oper)) (v := ?_) rfl (by kernel_rfl) (by kernel_rfl) (by kernel_rfl) (fun _ _ _ h => h) (Or.inl ⟨by rfl, ?_⟩) (by assumption) ?_
  rotate_left
  · (intro wz hSw; (try dsimp only at hSw); go_simp; try with_reducible rfl)
  simp only [Act.put, List.setIfInBounds_toArray, List.set_cons_zero, List.set_cons_succ]
  refine wpAnyH_done (by kernel_rfl) ?_ _
  clear hS0 HCL HST hHeld g3 zz zb zf c3 c4 c5
  have b0 := zw.c0
  have b1 := zw.c1
  have b2 := zw.c2
  have b3 := zw.c3
  have b4 := zw.c4
  have b5 := zw.c5
  clear zw
  go_wp2
  refine bodyPost_ret (by simp [results, Tryz.results7, go_sem, *]; try rfl) rfl ⟨?_, by rw [← HN.out]; exact hZ⟩
  rfl
set_option maxRecDepth 100000 in
set_option maxHeartbeats 16000000 in
theorem rbranchr_V (x : V) (yes : Bool) (w : World) : Calls Tryz.prog 13 #[.agg #[.int .i64 (up x.s), .bool x.k, .int .i64 x.n, .int .i64 x.lo, .int .i64 x.hi, .int .i64 (up x.p)], .bool yes] w fun e w' => e = .returned (.tuple #[.agg #[.int .i64 (up (branchV x yes).1.s), .bool (branchV x yes).1.k, .int .i64 (branchV x yes).1.n, .int .i64 (branchV x yes).1.lo, .int .i64 (branchV x yes).1.hi, .int .i64 (up (branchV x yes).1.p)], .bool (branchV x yes).2]) ∧ Below w.heap.size w w' := by
  have HR : Hid (someV ⟨branchS x.s yes, brI x.k x.n yes, brN x.k x.n yes, (branchP (x.lo, x.hi) yes).1.1, (branchP (x.lo, x.hi) yes).1.2, branchQ x.p yes⟩ (brOk x.k x.n yes && (branchP (x.lo, x.hi) yes).2) = branchV x yes) := rfl
  generalize branchV x yes = r at *
  have c1 := fun w => kbrr_any x.k x.n yes w
  have c2 := fun w => branchr_any (x.lo, x.hi) yes w
  have c3 := fun w => bel0 (sbranchr_any (up x.s) yes w)
  have c4 := fun w => bel0 (pbranchr_any (up x.p) yes w)
  simp only [low_up] at c3 c4
  dsimp only at c2
  generalize branchP (x.lo, x.hi) yes = m at *
  generalize brOk x.k x.n yes = t1 at *
  generalize brI x.k x.n yes = mI at *
  generalize brN x.k x.n yes = mN at *
  generalize branchS x.s yes = gs at *
  generalize branchQ x.p yes = gp at *
  have x0 : Br ((w.alloc (.cells #[.int .i64 (up x.s), .bool x.k, .int .i64 x.n, .int .i64 x.lo, .int .i64 x.hi, .int .i64 (up x.p)] 27)).alloc (.cells #[.int .i64 0, .bool false, .int .i64 0, .int .i64 0, .int .i64 0, .int .i64 0] 27)) (w.heap.size) (up x.s) x.k x.n x.lo x.hi (up x.p) := ((Br.new w (up x.s) x.k x.n x.lo x.hi (up x.p) 27)).keep ((Below.refl _ _).alloc (Nat.le_refl _) _)
  have x1 : Br ((w.alloc (.cells #[.int .i64 (up x.s), .bool x.k, .int .i64 x.n, .int .i64 x.lo, .int .i64 x.hi, .int .i64 (up x.p)] 27)).alloc (.cells #[.int .i64 0, .bool false, .int .i64 0, .int .i64 0, .int .i64 0, .int .i64 0] 27)) (w.heap.size + 1) 0 false 0 0 0 0 := (by simpa using Br.new (w.alloc (.cells #[.int .i64 (up x.s), .bool x.k, .int .i64 x.n, .int .i64 x.lo, .int .i64 x.hi, .int .i64 (up x.p)] 27)) 0 false 0 0 0 0 27 : Br ((w.alloc (.cells #[.int .i64 (up x.s), .bool x.k, .int .i64 x.n, .int .i64 x.lo, .int .i64 x.hi, .int .i64 (up x.p)] 27)).alloc (.cells #[.int .i64 0, .bool false, .int .i64 0, .int .i64 0, .int .i64 0, .int .i64 0] 27)) (w.heap.size + 1) 0 false 0 0 0 0)
  have xf : Fz ((w.alloc (.cells #[.int .i64 (up x.s), .bool x.k, .int .i64 x.n, .int .i64 x.lo, .int .i64 x.hi, .int .i64 (up x.p)] 27)).alloc (.cells #[.int .i64 0, .bool false, .int .i64 0, .int .i64 0, .int .i64 0, .int .i64 0] 27)) (w.heap.size + 1) := by simpa using Fz.new (w.alloc (.cells #[.int .i64 (up x.s), .bool x.k, .int .i64 x.n, .int .i64 x.lo, .int .i64 x.hi, .int .i64 (up x.p)] 27)) 0 false 0 0 0 0 27
  have xb : Below w.heap.size w ((w.alloc (.cells #[.int .i64 (up x.s), .bool x.k, .int .i64 x.n, .int .i64 x.lo, .int .i64 x.hi, .int .i64 (up x.p)] 27)).alloc (.cells #[.int .i64 0, .bool false, .int .i64 0, .int .i64 0, .int .i64 0, .int .i64 0] 27)) := (by repeat (first | exact Below.refl _ _ | (refine Below.drew ?_) | (refine below_drewN ?_ _) | (refine Below.setCell ?_ (by first | omega | (simp; done) | (simp; omega)) _) | (refine Below.alloc ?_ (by first | omega | (simp; done) | (simp; omega)) _) | (refine Below.trans ?_ (Below.mono (by assumption) (by first | omega | (simp; done) | (simp; omega))))))
  go_enter Tryz.func13, Tryz.ntmps13
  go_upto_region 1 with fail
  go_name_world W hW
  rw [hW] at x0 x1 xf xb
  clear hW
  obtain ⟨N, hN⟩ : ∃ N, N = w.heap.size := ⟨_, rfl⟩
  rw [← hN] at x0 x1 xf xb ⊢
  have HN : Hid (N = w.heap.size) := hN
  clear hN
  have HA := hide (And.intro x0 (And.intro x1 (And.intro xf xb)))
  clear x0 x1 xf xb
  have a0 := HA.out.1.c0
  have a1 := HA.out.1.c1
  have a2 := HA.out.1.c2
  have a3 := HA.out.1.c3
  have a4 := HA.out.1.c4
  have a5 := HA.out.1.c5
  go_upto_region 2 with (go_at_call 47; refine (c1 _).mono ?_; rintro e wK ⟨rfl, hK⟩)
  go_name_world W2 hW2
  have HB : Hid (Br W2 N (up x.s) x.k x.n x.lo x.hi (up x.p) ∧ Br W2 (N + 1) 0 false 0 0 0 0 ∧ Fz W2 (N + 1) ∧ Below N w W2 ∧ K2 W2 wK.heap.size mI mN ∧ (N + 1) < wK.heap.size) := by
    rw [← hW2]
    have k0 := HA.out.1.keep hK
    have k1 := HA.out.2.1.keep hK
    have kf := HA.out.2.2.1.keep HA.out.2.1.lt hK
    have kb := HA.out.2.2.2.trans (hK.mono (Nat.le_of_lt HA.out.1.lt))
    exact ⟨k0.keep ((Below.refl _ _).alloc (Nat.le_refl _) _), k1.keep ((Below.refl _ _).alloc (Nat.le_refl _) _), kf.keep k1.lt ((Below.refl _ _).alloc (Nat.le_refl _) _), kb.alloc (Nat.le_of_lt k0.lt) _, K2.new _ _ _ _, k1.lt⟩
  clear hW2 hK HA c1 a0 a1 a2 a3 a4 a5
  generalize wK.heap.size = T6 at *
  have a0 := HB.out.1.c0
  have a1 := HB.out.1.c1
  have a2 := HB.out.1.c2
  have a3 := HB.out.1.c3
  have a4 := HB.out.1.c4
  have a5 := HB.out.1.c5
  go_upto_region 3 with (go_at_call 48; refine (c2 _).mono ?_; rintro e wK ⟨rfl, hK⟩)
  go_name_world W3 hW3
  have HC : Hid (Br W3 N (up x.s) x.k x.n x.lo x.hi (up x.p) ∧ Br W3 (N + 1) 0 false 0 0 0 0 ∧ Fz W3 (N + 1) ∧ Below N w W3 ∧ K2 W3 T6 mI mN ∧ S2 W3 wK.heap.size m.1.1 m.1.2 ∧ (N + 1) < T6 ∧ (N + 1) < wK.heap.size) := by
    rw [← hW3]
    have k0 := HB.out.1.keep hK
    have k1 := HB.out.2.1.keep hK
    have kf := HB.out.2.2.1.keep HB.out.2.1.lt hK
    have kb := HB.out.2.2.2.1.trans (hK.mono (Nat.le_of_lt HB.out.1.lt))
    have k5 := (HB.out.2.2.2.2.1).keep hK
    exact ⟨k0.keep ((Below.refl _ _).alloc (Nat.le_refl _) _), k1.keep ((Below.refl _ _).alloc (Nat.le_refl _) _), kf.keep k1.lt ((Below.refl _ _).alloc (Nat.le_refl _) _), kb.alloc (Nat.le_of_lt k0.lt) _, k5.keep ((Below.refl _ _).alloc (Nat.le_refl _) _), S2.new _ _ _ _, HB.out.2.2.2.2.2, k1.lt⟩
  clear hW3 hK HB c2 a0 a1 a2 a3 a4 a5
  generalize wK.heap.size = T8 at *
  have HCL : Hid (∀ a b : World, (a.cell? ⟨N, 0, none⟩ = some (.int .i64 (up x.s)) ∧ a.cell? ⟨N, 5, none⟩ = some (.int .i64 (up x.p)) ∧ a.cell? ⟨T6, 0, none⟩ = some (.bool mI) ∧ a.cell? ⟨T6, 1, none⟩ = some (.int .i64 mN) ∧ a.cell? ⟨T8, 0, none⟩ = some (.int .i64 m.1.1) ∧ a.cell? ⟨T8, 1, none⟩ = some (.int .i64 m.1.2) ∧ Hid (Br a N (up x.s) x.k x.n x.lo x.hi (up x.p) ∧ Rw a (N + 1) ∧ Below N w a ∧ K2 a T6 mI mN ∧ S2 a T8 m.1.1 m.1.2 ∧ (N + 1) < T6 ∧ (N + 1) < T8)) → Below a.heap.size a b → (b.cell? ⟨N, 0, none⟩ = some (.int .i64 (up x.s)) ∧ b.cell? ⟨N, 5, none⟩ = some (.int .i64 (up x.p)) ∧ b.cell? ⟨T6, 0, none⟩ = some (.bool mI) ∧ b.cell? ⟨T6, 1, none⟩ = some (.int .i64 mN) ∧ b.cell? ⟨T8, 0, none⟩ = some (.int .i64 m.1.1) ∧ b.cell? ⟨T8, 1, none⟩ = some (.int .i64 m.1.2) ∧ Hid (Br b N (up x.s) x.k x.n x.lo x.hi (up x.p) ∧ Rw b (N + 1) ∧ Below N w b ∧ K2 b T6 mI mN ∧ S2 b T8 m.1.1 m.1.2 ∧ (N + 1) < T6 ∧ (N + 1) < T8))) := fun a b h hb => by
    have y9 := (h.2.2.2.2.2.2).out
    have z9 : Br b N (up x.s) x.k x.n x.lo x.hi (up x.p) ∧ Rw b (N + 1) ∧ Below N w b ∧ K2 b T6 mI mN ∧ S2 b T8 m.1.1 m.1.2 ∧ (N + 1) < T6 ∧ (N + 1) < T8 := ⟨y9.1.keep hb, y9.2.1.keep hb, y9.2.2.1.trans (hb.mono (Nat.le_of_lt y9.1.lt)), y9.2.2.2.1.keep hb, y9.2.2.2.2.1.keep hb, y9.2.2.2.2.2.1, y9.2.2.2.2.2.2⟩
    exact ⟨z9.1.c0, z9.1.c5, z9.2.2.2.1.1, z9.2.2.2.1.2, z9.2.2.2.2.1.1, z9.2.2.2.2.1.2, z9⟩
  have HST : Hid (∀ a : World, (a.cell? ⟨N, 0, none⟩ = some (.int .i64 (up x.s)) ∧ a.cell? ⟨N, 5, none⟩ = some (.int .i64 (up x.p)) ∧ a.cell? ⟨T6, 0, none⟩ = some (.bool mI) ∧ a.cell? ⟨T6, 1, none⟩ = some (.int .i64 mN) ∧ a.cell? ⟨T8, 0, none⟩ = some (.int .i64 m.1.1) ∧ a.cell? ⟨T8, 1, none⟩ = some (.int .i64 m.1.2) ∧ Hid (Br a N (up x.s) x.k x.n x.lo x.hi (up x.p) ∧ Rw a (N + 1) ∧ Below N w a ∧ K2 a T6 mI mN ∧ S2 a T8 m.1.1 m.1.2 ∧ (N + 1) < T6 ∧ (N + 1) < T8)) → ((st6 a (N + 1) (.int .i64 (up r.1.s)) (.bool r.1.k) (.int .i64 r.1.n) (.int .i64 r.1.lo) (.int .i64 r.1.hi) (.int .i64 (up r.1.p))).cell? ⟨N, 0, none⟩ = some (.int .i64 (up x.s)) ∧ (st6 a (N + 1) (.int .i64 (up r.1.s)) (.bool r.1.k) (.int .i64 r.1.n) (.int .i64 r.1.lo) (.int .i64 r.1.hi) (.int .i64 (up r.1.p))).cell? ⟨N, 5, none⟩ = some (.int .i64 (up x.p)) ∧ (st6 a (N + 1) (.int .i64 (up r.1.s)) (.bool r.1.k) (.int .i64 r.1.n) (.int .i64 r.1.lo) (.int .i64 r.1.hi) (.int .i64 (up r.1.p))).cell? ⟨T6, 0, none⟩ = some (.bool mI) ∧ (st6 a (N + 1) (.int .i64 (up r.1.s)) (.bool r.1.k) (.int .i64 r.1.n) (.int .i64 r.1.lo) (.int .i64 r.1.hi) (.int .i64 (up r.1.p))).cell? ⟨T6, 1, none⟩ = some (.int .i64 mN) ∧ (st6 a (N + 1) (.int .i64 (up r.1.s)) (.bool r.1.k) (.int .i64 r.1.n) (.int .i64 r.1.lo) (.int .i64 r.1.hi) (.int .i64 (up r.1.p))).cell? ⟨T8, 0, none⟩ = some (.int .i64 m.1.1) ∧ (st6 a (N + 1) (.int .i64 (up r.1.s)) (.bool r.1.k) (.int .i64 r.1.n) (.int .i64 r.1.lo) (.int .i64 r.1.hi) (.int .i64 (up r.1.p))).cell? ⟨T8, 1, none⟩ = some (.int .i64 m.1.2) ∧ Hid (Br (st6 a (N + 1) (.int .i64 (up r.1.s)) (.bool r.1.k) (.int .i64 r.1.n) (.int .i64 r.1.lo) (.int .i64 r.1.hi) (.int .i64 (up r.1.p))) N (up x.s) x.k x.n x.lo x.hi (up x.p) ∧ Rw (st6 a (N + 1) (.int .i64 (up r.1.s)) (.bool r.1.k) (.int .i64 r.1.n) (.int .i64 r.1.lo) (.int .i64 r.1.hi) (.int .i64 (up r.1.p))) (N + 1) ∧ Below N w (st6 a (N + 1) (.int .i64 (up r.1.s)) (.bool r.1.k) (.int .i64 r.1.n) (.int .i64 r.1.lo) (.int .i64 r.1.hi) (.int .i64 (up r.1.p))) ∧ K2 (st6 a (N + 1) (.int .i64 (up r.1.s)) (.bool r.1.k) (.int .i64 r.1.n) (.int .i64 r.1.lo) (.int .i64 r.1.hi) (.int .i64 (up r.1.p))) T6 mI mN ∧ S2 (st6 a (N + 1) (.int .i64 (up r.1.s)) (.bool r.1.k) (.int .i64 r.1.n) (.int .i64 r.1.lo) (.int .i64 r.1.hi) (.int .i64 (up r.1.p))) T8 m.1.1 m.1.2 ∧ (N + 1) < T6 ∧ (N + 1) < T8))) := fun a h => by
    have y9 := (h.2.2.2.2.2.2).out
    have g1 := y9.2.2.2.2.2.1
    have g2 := y9.2.2.2.2.2.2
    have z9 : Br (st6 a (N + 1) (.int .i64 (up r.1.s)) (.bool r.1.k) (.int .i64 r.1.n) (.int .i64 r.1.lo) (.int .i64 r.1.hi) (.int .i64 (up r.1.p))) N (up x.s) x.k x.n x.lo x.hi (up x.p) ∧ Rw (st6 a (N + 1) (.int .i64 (up r.1.s)) (.bool r.1.k) (.int .i64 r.1.n) (.int .i64 r.1.lo) (.int .i64 r.1.hi) (.int .i64 (up r.1.p))) (N + 1) ∧ Below N w (st6 a (N + 1) (.int .i64 (up r.1.s)) (.bool r.1.k) (.int .i64 r.1.n) (.int .i64 r.1.lo) (.int .i64 r.1.hi) (.int .i64 (up r.1.p))) ∧ K2 (st6 a (N + 1) (.int .i64 (up r.1.s)) (.bool r.1.k) (.int .i64 r.1.n) (.int .i64 r.1.lo) (.int .i64 r.1.hi) (.int .i64 (up r.1.p))) T6 mI mN ∧ S2 (st6 a (N + 1) (.int .i64 (up r.1.s)) (.bool r.1.k) (.int .i64 r.1.n) (.int .i64 r.1.lo) (.int .i64 r.1.hi) (.int .i64 (up r.1.p))) T8 m.1.1 m.1.2 ∧ (N + 1) < T6 ∧ (N + 1) < T8 := ⟨y9.1.put (by omega) _ _ _ _ _ _, y9.2.1.put (up r.1.s) r.1.k r.1.n r.1.lo r.1.hi (up r.1.p), st6_below y9.2.2.1 _ (by omega) _ _ _ _ _ _, y9.2.2.2.1.put (by omega) _ _ _ _ _ _, y9.2.2.2.2.1.put (by omega) _ _ _ _ _ _, g1, g2⟩
    exact ⟨z9.1.c0, z9.1.c5, z9.2.2.2.1.1, z9.2.2.2.1.2, z9.2.2.2.2.1.1, z9.2.2.2.2.1.2, z9⟩
  have z0 : Br W3 N (up x.s) x.k x.n x.lo x.hi (up x.p) ∧ Rw W3 (N + 1) ∧ Below N w W3 ∧ K2 W3 T6 mI mN ∧ S2 W3 T8 m.1.1 m.1.2 ∧ (N + 1) < T6 ∧ (N + 1) < T8 := ⟨HC.out.1, ⟨_, _, _, _, _, _, HC.out.2.1, HC.out.2.2.1⟩, HC.out.2.2.2.1, HC.out.2.2.2.2.1, HC.out.2.2.2.2.2.1, HC.out.2.2.2.2.2.2.1, HC.out.2.2.2.2.2.2.2⟩
  have hS0 : W3.cell? ⟨N, 0, none⟩ = some (.int .i64 (up x.s)) ∧ W3.cell? ⟨N, 5, none⟩ = some (.int .i64 (up x.p)) ∧ W3.cell? ⟨T6, 0, none⟩ = some (.bool mI) ∧ W3.cell? ⟨T6, 1, none⟩ = some (.int .i64 mN) ∧ W3.cell? ⟨T8, 0, none⟩ = some (.int .i64 m.1.1) ∧ W3.cell? ⟨T8, 1, none⟩ = some (.int .i64 m.1.2) ∧ Hid (Br W3 N (up x.s) x.k x.n x.lo x.hi (up x.p) ∧ Rw W3 (N + 1) ∧ Below N w W3 ∧ K2 W3 T6 mI mN ∧ S2 W3 T8 m.1.1 m.1.2 ∧ (N + 1) < T6 ∧ (N + 1) < T8) := ⟨z0.1.c0, z0.1.c5, z0.2.2.2.1.1, z0.2.2.2.1.2, z0.2.2.2.2.1.1, z0.2.2.2.2.1.2, z0⟩
  clear z0 HC
  have c5 := fun w => allr_V ⟨gs, mI, mN, m.1.1, m.1.2, gp⟩ t1 m.2 w
  rw [HR.out] at c5
  refine wp_region_held_drew (S := fun w' => w'.cell? ⟨N, 0, none⟩ = some (.int .i64 (up x.s)) ∧ w'.cell? ⟨N, 5, none⟩ = some (.int .i64 (up x.p)) ∧ w'.cell? ⟨T6, 0, none⟩ = some (.bool mI) ∧ w'.cell? ⟨T6, 1, none⟩ = some (.int .i64 mN) ∧ w'.cell? ⟨T8, 0, none⟩ = some (.int .i64 m.1.1) ∧ w'.cell? ⟨T8, 1, none⟩ = some (.int .i64 m.1.2) ∧ Hid (Br w' N (up x.s) x.k x.n x.lo x.hi (up x.p) ∧ Rw w' (N + 1) ∧ Below N w w' ∧ K2 w' T6 mI mN ∧ S2 w' T8 m.1.1 m.1.2 ∧ (N + 1) < T6 ∧ (N + 1) < T8)) (by kernel_rfl) (HCL.out _ _ hS0 ((Below.refl _ _).drew)) (fun hHeld => ?_)
  refine wpAnyH_take (i := 0) (oi := ({ dst := some 24, op := Op.fieldAddr 27 (Operand.tmp 2) 0, type := 0, pos := "ref.go:95", after := #[], guard := none } : Oper)) (v := ?_) rfl (by kernel_rfl) (by kernel_rfl) (by kernel_rfl) (fun _ _ _ h => h) (Or.inl ⟨by rfl, ?_⟩) (by assumption) ?_
  rotate_left
  · (intro wz hSw; (try dsimp only at hSw); go_simp; try with_reducible rfl)
  simp only [Act.put, List.setIfInBounds_toArray, List.set_cons_zero, List.set_cons_succ]
  refine wpAnyH_take (i := 1) (oi := ({ dst := some 25, op := Op.load 3 (Operand.tmp 24), type := 3, pos := "ref.go:95", after := #[{ on := 0, ground := Ground.data }], guard := none } : Oper)) (v := ?_) rfl (by kernel_rfl) (by kernel_rfl) (by kernel_rfl) (fun _ _ _ h => h) (Or.inl ⟨by rfl, ?_⟩) (by assumption) ?_
  rotate_left
  · (intro wz hSw; (try dsimp only at hSw); go_simp; try with_reducible rfl)
  simp only [Act.put, List.setIfInBounds_toArray, List.set_cons_zero, List.set_cons_succ]
  refine wpAnyH_take (i := 2) (oi := ({ dst := some 26, op := Op.move (Operand.tmp 1), type := 4, pos := "ref.go:95", after := #[], guard := none } : Oper)) (v := ?_) rfl (by kernel_rfl) (by kernel_rfl) (by kernel_rfl) (fun _ _ _ h => h) (Or.inl ⟨by rfl, ?_⟩) (by assumption) ?_
  rotate_left
  · (intro wz hSw; (try dsimp only at hSw); go_simp; try with_reducible rfl)
  simp only [Act.put, List.setIfInBounds_toArray, List.set_cons_zero, List.set_cons_succ]
  refine wpAnyH_take (i := 4) (oi := ({ dst := some 28, op := Op.load 23 (Operand.tmp 6), type := 23, pos := "ref.go:95", after := #[], guard := none } : Oper)) (v := ?_) rfl (by kernel_rfl) (by kernel_rfl) (by kernel_rfl) (fun _ _ _ h => h) (Or.inl ⟨by rfl, ?_⟩) (by assumption) ?_
  rotate_left
  · (intro wz hSw; (try dsimp only at hSw); go_simp; try with_reducible rfl)
  simp only [Act.put, List.setIfInBounds_toArray, List.set_cons_zero, List.set_cons_succ]
  refine wpAnyH_take (i := 5) (oi := ({ dst := some 29, op := Op.load 25 (Operand.tmp 8), type := 25, pos := "ref.go:95", after := #[], guard := none } : Oper)) (v := ?_) rfl (by kernel_rfl) (by kernel_rfl) (by kernel_rfl) (fun _ _ _ h => h) (Or.inl ⟨by rfl, ?_⟩) (by assumption) ?_
  rotate_left
  · (intro wz hSw; (try dsimp only at hSw); go_simp; try with_reducible rfl)
  simp only [Act.put, List.setIfInBounds_toArray, List.set_cons_zero, List.set_cons_succ]
  refine wpAnyH_take (i := 6) (oi := ({ dst := some 30, op := Op.fieldAddr 27 (Operand.tmp 2) 3, type := 0, pos := "ref.go:95", after := #[], guard := none } : Oper)) (v := ?_) rfl (by kernel_rfl) (by kernel_rfl) (by kernel_rfl) (fun _ _ _ h => h) (Or.inl ⟨by rfl, ?_⟩) (by assumption) ?_
  rotate_left
  · (intro wz hSw; (try dsimp only at hSw); go_simp; try with_reducible rfl)
  simp only [Act.put, List.setIfInBounds_toArray, List.set_cons_zero, List.set_cons_succ]
  refine wpAnyH_take (i := 7) (oi := ({ dst := some 31, op := Op.load 3 (Operand.tmp 30), type := 3, pos := "ref.go:95", after := #[{ on := 6, ground := Ground.data }], guard := none } : Oper)) (v := ?_) rfl (by kernel_rfl) (by kernel_rfl) (by kernel_rfl) (fun _ _ _ h => h) (Or.inl ⟨by rfl, ?_⟩) (by assumption) ?_
  rotate_left
  · (intro wz hSw; (try dsimp only at hSw); go_simp; try with_reducible rfl)
  simp only [Act.put, List.setIfInBounds_toArray, List.set_cons_zero, List.set_cons_succ]
  refine wpAnyH_take (i := 8) (oi := ({ dst := some 32, op := Op.move (Operand.tmp 1), type := 4, pos := "ref.go:95", after := #[], guard := none } : Oper)) (v := ?_) rfl (by kernel_rfl) (by kernel_rfl) (by kernel_rfl) (fun _ _ _ h => h) (Or.inl ⟨by rfl, ?_⟩) (by assumption) ?_
  rotate_left
  · (intro wz hSw; (try dsimp only at hSw); go_simp; try with_reducible rfl)
  simp only [Act.put, List.setIfInBounds_toArray, List.set_cons_zero, List.set_cons_succ]
  refine wpAnyH_take (i := 11) (oi := ({ dst := some 35, op := Op.move (Operand.tmp 7), type := 4, pos := "ref.go:95", after := #[], guard := none } : Oper)) (v := ?_) rfl (by kernel_rfl) (by kernel_rfl) (by kernel_rfl) (fun _ _ _ h => h) (Or.inl ⟨by rfl, ?_⟩) (by assumption) ?_
  rotate_left
  · (intro wz hSw; (try dsimp only at hSw); go_simp; try with_reducible rfl)
  simp only [Act.put, List.setIfInBounds_toArray, List.set_cons_zero, List.set_cons_succ]
  refine wpAnyH_take (i := 12) (oi := ({ dst := some 36, op := Op.move (Operand.tmp 9), type := 4, pos := "ref.go:95", after := #[], guard := none } : Oper)) (v := ?_) rfl (by kernel_rfl) (by kernel_rfl) (by kernel_rfl) (fun _ _ _ h => h) (Or.inl ⟨by rfl, ?_⟩) (by assumption) ?_
  rotate_left
  · (intro wz hSw; (try dsimp only at hSw); go_simp; try with_reducible rfl)
  simp only [Act.put, List.setIfInBounds_toArray, List.set_cons_zero, List.set_cons_succ]
  refine wpAnyH_ready (rs := [3]) (by kernel_rfl) (by simp) ?_
  refine AllReadyH.cons (o := ({ dst := some 27, op := Op.call { callee := Callee.value (Operand.func 49), args := #[Operand.tmp 25, Operand.tmp 26], argTypes := #[3, 4] }, type := 3, pos := "ref.go:95", after := #[{ on := 1, ground := Ground.data }, { on := 2, ground := Ground.data }], guard := none } : Oper)) rfl (fun K hK => ?_) AllReadyH.nil
  go_simp
  go_at_call 49
  refine (lift (c3 _) (by assumption) HCL.out).mono ?_
  rintro e v1 ⟨rfl, g1⟩
  clear hHeld
  refine hK.out _ _ g1 (fun hHeld => ?_)
  clear hK K
  refine wpAnyH_ready (rs := [9]) (by kernel_rfl) (by simp) ?_
  refine AllReadyH.cons (o := ({ dst := some 33, op := Op.call { callee := Callee.value (Operand.func 50), args := #[Operand.tmp 31, Operand.tmp 32], argTypes := #[3, 4] }, type := 3, pos := "ref.go:95", after := #[{ on := 7, ground := Ground.data }, { on := 8, ground := Ground.data }, { on := 3, ground := Ground.chain }], guard := none } : Oper)) rfl (fun K hK => ?_) AllReadyH.nil
  go_simp
  go_at_call 50
  refine (lift (c4 _) (by assumption) HCL.out).mono ?_
  rintro e v2 ⟨rfl, g2⟩
  clear hHeld g1
  refine hK.out _ _ g2 (fun hHeld => ?_)
  clear hK K
  refine wpAnyH_take (i := 10) (oi := ({ dst := some 34, op := Op.build 27 #[(0, Operand.tmp 27), (1, Operand.tmp 28), (2, Operand.tmp 29), (3, Operand.tmp 33)], type := 27, pos := "ref.go:95", after := #[{ on := 3, ground := Ground.data }, { on := 4, ground := Ground.data }, { on := 5, ground := Ground.data }, { on := 9, ground := Ground.data }], guard := none } : Oper)) (v := ?_) rfl (by kernel_rfl) (by kernel_rfl) (by kernel_rfl) (fun _ _ _ h => h) (Or.inl ⟨by rfl, ?_⟩) (by assumption) ?_
  rotate_left
  · (intro wz hSw; (try dsimp only at hSw); go_simp; try with_reducible rfl)
  simp only [Act.put, List.setIfInBounds_toArray, List.set_cons_zero, List.set_cons_succ]
  refine wpAnyH_ready (rs := [13]) (by kernel_rfl) (by simp) ?_
  refine AllReadyH.cons (o := ({ dst := some 37, op := Op.call { callee := Callee.value (Operand.func 25), args := #[Operand.tmp 34, Operand.tmp 35, Operand.tmp 36], argTypes := #[27, 4, 4] }, type := 36, pos := "ref.go:95", after := #[{ on := 10, ground := Ground.data }, { on := 11, ground := Ground.data }, { on := 12, ground := Ground.data }, { on := 9, ground := Ground.chain }], guard := none } : Oper)) rfl (fun K hK => ?_) AllReadyH.nil
  go_simp
  go_at_call 25
  refine (lift (c5 _) (by assumption) HCL.out).mono ?_
  rintro e v3 ⟨rfl, g3⟩
  clear hHeld g2
  refine hK.out _ _ g3 (fun hHeld => ?_)
  clear hK K
  refine wpAnyH_take (i := 14) (oi := ({ dst := some 38, op := Op.extract (Operand.tmp 37) 0, type := 27, pos := "ref.go:95", after := #[{ on := 13, ground := Ground.data }], guard := none } : Oper)) (v := ?_) rfl (by kernel_rfl) (by kernel_rfl) (by kernel_rfl) (fun _ _ _ h => h) (Or.inl ⟨by rfl, ?_⟩) (by assumption) ?_
  rotate_left
  · (intro wz hSw; (try dsimp only at hSw); go_simp; try with_reducible rfl)
  simp only [Act.put, List.setIfInBounds_toArray, List.set_cons_zero, List.set_cons_succ]
  refine wpAnyH_take (i := 15) (oi := ({ dst := some 39, op := Op.extract (Operand.tmp 37) 1, type := 4, pos := "ref.go:95", after := #[{ on := 13, ground := Ground.data }], guard := none } : Oper)) (v := ?_) rfl (by kernel_rfl) (by kernel_rfl) (by kernel_rfl) (fun _ _ _ h => h) (Or.inl ⟨by rfl, ?_⟩) (by assumption) ?_
  rotate_left
  · (intro wz hSw; (try dsimp only at hSw); go_simp; try with_reducible rfl)
  simp only [Act.put, List.setIfInBounds_toArray, List.set_cons_zero, List.set_cons_succ]
  refine wpAnyH_ready (rs := [16]) (by kernel_rfl) (by simp) ?_
  refine AllReadyH.cons (o := ({ dst := none, op := Op.store 27 (Operand.tmp 4) (Operand.tmp 38), type := 0, pos := "ref.go:95", after := #[{ on := 14, ground := Ground.data }, { on := 13, ground := Ground.chain }, { on := 0, ground := Ground.phase }, { on := 1, ground := Ground.phase }, { on := 2, ground := Ground.phase }, { on := 3, ground := Ground.phase }, { on := 4, ground := Ground.phase }, { on := 5, ground := Ground.phase }, { on := 6, ground := Ground.phase }, { on := 7, ground := Ground.phase }, { on := 8, ground := Ground.phase }, { on := 9, ground := Ground.phase }, { on := 10, ground := Ground.phase }, { on := 11, ground := Ground.phase }, { on := 12, ground := Ground.phase }, { on := 13, ground := Ground.phase }, { on := 14, ground := Ground.phase }, { on := 15, ground := Ground.phase }], guard := none } : Oper)) rfl (fun K hK => ?_) AllReadyH.nil
  have zz := (hHeld.2.2.2.2.2.2).out
  obtain ⟨s9, k9, n9, lo9, hi9, p9, zb, zf⟩ := zz.2.1
  have zc0 := zb.c0
  have zf0 := zf.f0
  have zc1 := zb.c1
  have zf1 := zf.f1
  have zc2 := zb.c2
  have zf2 := zf.f2
  have zc3 := zb.c3
  have zf3 := zf.f3
  have zc4 := zb.c4
  have zf4 := zf.f4
  have zc5 := zb.c5
  have zf5 := zf.f5
  go_simp
  have zw := zb.wrote (up r.1.s) r.1.k r.1.n r.1.lo r.1.hi (up r.1.p)
  have hZ := st6_below zz.2.2.1 (N + 1) (by omega) (.int .i64 (up r.1.s)) (.bool r.1.k) (.int .i64 r.1.n) (.int .i64 r.1.lo) (.int .i64 r.1.hi) (.int .i64 (up r.1.p))
  refine hK.out _ _ (HST.out _ hHeld) (fun _ => ?_)
  clear hK K zc0 zf0 zc1 zf1 zc2 zf2 zc3 zf3 zc4 zf4 zc5 zf5
  refine wpAnyH_take (i := 17) (oi := ({ dst := some 5, op := Op.assign (Operand.tmp 39), type := 4, pos := "ref.go:95", after := #[{ on := 15, ground := Ground.data }, { on := 16, ground := Ground.chain }, { on := 0, ground := Ground.phase }, { on := 1, ground := Ground.phase }, { on := 2, ground := Ground.phase }, { on := 3, ground := Ground.phase }, { on := 4, ground := Ground.phase }, { on := 5, ground := Ground.phase }, { on := 6, ground := Ground.phase }, { on := 7, ground := Ground.phase }, { on := 8, ground := Ground.phase }, { on := 9, ground := Ground.phase }, { on := 10, ground := Ground.phase }, { on := 11, ground := Ground.phase }, { on := 12, ground := Ground.phase }, { on := 13, ground := Ground.phase }, { on := 14, ground := Ground.phase }, { on := 15, ground := Ground.phase }, { on := 16, ground := Ground.phase }], guard := none } : Oper)) (v := ?_) rfl (by kernel_rfl) (by kernel_rfl) (by kernel_rfl) (fun _ _ _ h => h) (Or.inl ⟨by rfl, ?_⟩) (by assumption) ?_
  rotate_left
  · (intro wz hSw; (try dsimp only at hSw); go_simp; try with_reducible rfl)
  simp only [Act.put, List.setIfInBounds_toArray, List.set_cons_zero, List.set_cons_succ]
  refine wpAnyH_done (by kernel_rfl) ?_ _
  clear hS0 HCL HST hHeld g3 zz zb zf c3 c4 c5
  have b0 := zw.c0
  have b1 := zw.c1
  have b2 := zw.c2
  have b3 := zw.c3
  have b4 := zw.c4
  have b5 := zw.c5
  clear zw
  go_wp2
  refine bodyPost_ret (by simp [results, Tryz.results13, go_sem, *]; try rfl) rfl ⟨?_, by rw [← HN.out]; exact hZ⟩
  rfl
end Go.Proofs.YthiacdbjlkpfgaaGreatDoor
