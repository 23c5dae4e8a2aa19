import Derived.Test.YthiacdbjlkpfgaaGreatDoorG03
import Derived.Test.YthiacdbjlkpfgaaGreatDoorG08
import Derived.Test.YthiacdbjlkpfgaaGreatDoorG14
namespace Go.Proofs.YthiacdbjlkpfgaaGreatDoor
open Go.RowKit
theorem GlobS.keep {w w' : World} (h : GlobS w) (hb : Below w.heap.size w w') : GlobS w' := fun n hn => (hb.cell (p := ⟨0, n, none⟩) (World.block_lt_of_cell? w _ (h n hn))).trans (h n hn)
theorem GlobP.keep {w w' : World} (h : GlobP w) (hb : Below w.heap.size w w') : GlobP w' := fun n hn => (hb.cell (p := ⟨1, n, none⟩) (World.block_lt_of_cell? w _ (h n hn))).trans (h n hn)
theorem GlobS.put {w : World} {q : Nat} (h : GlobS w) (hq : 0 ≠ q) (a b c d e f : Value) : GlobS (st6 w q a b c d e f) := fun n hn => (st6_cell w q 0 n a b c d e f hq).trans (h n hn)
theorem GlobP.put {w : World} {q : Nat} (h : GlobP w) (hq : 1 ≠ q) (a b c d e f : Value) : GlobP (st6 w q a b c d e f) := fun n hn => (st6_cell w q 1 n a b c d e f hq).trans (h n hn)
def twoV (op : Int) (x y : V) : V × Bool := someV ⟨twoS op x.s y.s, twoI op x.k y.k y.n, twoN op x.k x.n y.k y.n, (twoP op (x.lo, x.hi) (y.lo, y.hi)).1.1, (twoP op (x.lo, x.hi) (y.lo, y.hi)).1.2, twoQ op x.p y.p⟩ (twoOk op y.k y.n && (twoP op (x.lo, x.hi) (y.lo, y.hi)).2)
set_option maxRecDepth 100000 in
set_option maxHeartbeats 16000000 in
theorem two_V (op : Int) (x y : V) (w : World) (hx : x.ok) (hy : y.ok) (hG : GlobS w) (hP : GlobP w) : Calls Tryz.prog 10 #[.int .i64 op, .agg #[.int .i64 (up x.s), .bool x.k, .int .i64 x.n, .int .i64 x.lo, .int .i64 x.hi, .int .i64 (up x.p)], .agg #[.int .i64 (up y.s), .bool y.k, .int .i64 y.n, .int .i64 y.lo, .int .i64 y.hi, .int .i64 (up y.p)]] w fun e w' => e = .returned (.tuple #[.agg #[.int .i64 (up (twoV op x y).1.s), .bool (twoV op x y).1.k, .int .i64 (twoV op x y).1.n, .int .i64 (twoV op x y).1.lo, .int .i64 (twoV op x y).1.hi, .int .i64 (up (twoV op x y).1.p)], .bool (twoV op x y).2]) ∧ Below w.heap.size w w' := by
  have HR : Hid (someV ⟨twoS op x.s y.s, twoI op x.k y.k y.n, twoN op x.k x.n y.k y.n, (twoP op (x.lo, x.hi) (y.lo, y.hi)).1.1, (twoP op (x.lo, x.hi) (y.lo, y.hi)).1.2, twoQ op x.p y.p⟩ (twoOk op y.k y.n && (twoP op (x.lo, x.hi) (y.lo, y.hi)).2) = twoV op x y) := rfl
  generalize twoV op x y = r at *
  have c1 := fun w => ktwo_any op x.k x.n y.k y.n w hx.i hy.i
  have c2 := fun w => two_any op (x.lo, x.hi) (y.lo, y.hi) w hx.sp hy.sp
  have c3 := fun w G => bel0 (stwo_any op (up x.s) (up y.s) w G)
  have c4 := fun w G => bel0 (ptwo_any op (up x.p) (up y.p) w G)
  simp only [low_up] at c3 c4
  dsimp only at c2
  clear hx hy
  generalize twoP op (x.lo, x.hi) (y.lo, y.hi) = m at *
  generalize twoOk op y.k y.n = t1 at *
  generalize twoI op x.k y.k y.n = mI at *
  generalize twoN op x.k x.n y.k y.n = mN at *
  generalize twoS op x.s y.s = gs at *
  generalize twoQ op x.p y.p = gp at *
  have xG : GlobS (((w.alloc (.cells #[.int .i64 (up x.s), .bool x.k, .int .i64 x.n, .int .i64 x.lo, .int .i64 x.hi, .int .i64 (up x.p)] 32)).alloc (.cells #[.int .i64 (up y.s), .bool y.k, .int .i64 y.n, .int .i64 y.lo, .int .i64 y.hi, .int .i64 (up y.p)] 32)).alloc (.cells #[.int .i64 0, .bool false, .int .i64 0, .int .i64 0, .int .i64 0, .int .i64 0] 32)) := hG.keep (by repeat (first | exact Below.refl _ _ | (refine Below.drew ?_) | (refine below_drewN ?_ _) | (refine Below.setCell ?_ (by first | omega | (simp; done) | (simp; omega)) _) | (refine Below.alloc ?_ (by first | omega | (simp; done) | (simp; omega)) _) | (refine Below.trans ?_ (Below.mono (by assumption) (by first | omega | (simp; done) | (simp; omega))))))
  have xP : GlobP (((w.alloc (.cells #[.int .i64 (up x.s), .bool x.k, .int .i64 x.n, .int .i64 x.lo, .int .i64 x.hi, .int .i64 (up x.p)] 32)).alloc (.cells #[.int .i64 (up y.s), .bool y.k, .int .i64 y.n, .int .i64 y.lo, .int .i64 y.hi, .int .i64 (up y.p)] 32)).alloc (.cells #[.int .i64 0, .bool false, .int .i64 0, .int .i64 0, .int .i64 0, .int .i64 0] 32)) := hP.keep (by repeat (first | exact Below.refl _ _ | (refine Below.drew ?_) | (refine below_drewN ?_ _) | (refine Below.setCell ?_ (by first | omega | (simp; done) | (simp; omega)) _) | (refine Below.alloc ?_ (by first | omega | (simp; done) | (simp; omega)) _) | (refine Below.trans ?_ (Below.mono (by assumption) (by first | omega | (simp; done) | (simp; omega))))))
  clear hG hP
  have x0 : Br (((w.alloc (.cells #[.int .i64 (up x.s), .bool x.k, .int .i64 x.n, .int .i64 x.lo, .int .i64 x.hi, .int .i64 (up x.p)] 32)).alloc (.cells #[.int .i64 (up y.s), .bool y.k, .int .i64 y.n, .int .i64 y.lo, .int .i64 y.hi, .int .i64 (up y.p)] 32)).alloc (.cells #[.int .i64 0, .bool false, .int .i64 0, .int .i64 0, .int .i64 0, .int .i64 0] 32)) (w.heap.size) (up x.s) x.k x.n x.lo x.hi (up x.p) := (((Br.new w (up x.s) x.k x.n x.lo x.hi (up x.p) 32)).keep ((Below.refl _ _).alloc (Nat.le_refl _) _)).keep ((Below.refl _ _).alloc (Nat.le_refl _) _)
  have x1 : Br (((w.alloc (.cells #[.int .i64 (up x.s), .bool x.k, .int .i64 x.n, .int .i64 x.lo, .int .i64 x.hi, .int .i64 (up x.p)] 32)).alloc (.cells #[.int .i64 (up y.s), .bool y.k, .int .i64 y.n, .int .i64 y.lo, .int .i64 y.hi, .int .i64 (up y.p)] 32)).alloc (.cells #[.int .i64 0, .bool false, .int .i64 0, .int .i64 0, .int .i64 0, .int .i64 0] 32)) (w.heap.size + 1) (up y.s) y.k y.n y.lo y.hi (up y.p) := ((by simpa using Br.new (w.alloc (.cells #[.int .i64 (up x.s), .bool x.k, .int .i64 x.n, .int .i64 x.lo, .int .i64 x.hi, .int .i64 (up x.p)] 32)) (up y.s) y.k y.n y.lo y.hi (up y.p) 32 : Br ((w.alloc (.cells #[.int .i64 (up x.s), .bool x.k, .int .i64 x.n, .int .i64 x.lo, .int .i64 x.hi, .int .i64 (up x.p)] 32)).alloc (.cells #[.int .i64 (up y.s), .bool y.k, .int .i64 y.n, .int .i64 y.lo, .int .i64 y.hi, .int .i64 (up y.p)] 32)) (w.heap.size + 1) (up y.s) y.k y.n y.lo y.hi (up y.p))).keep ((Below.refl _ _).alloc (Nat.le_refl _) _)
  have x2 : Br (((w.alloc (.cells #[.int .i64 (up x.s), .bool x.k, .int .i64 x.n, .int .i64 x.lo, .int .i64 x.hi, .int .i64 (up x.p)] 32)).alloc (.cells #[.int .i64 (up y.s), .bool y.k, .int .i64 y.n, .int .i64 y.lo, .int .i64 y.hi, .int .i64 (up y.p)] 32)).alloc (.cells #[.int .i64 0, .bool false, .int .i64 0, .int .i64 0, .int .i64 0, .int .i64 0] 32)) (w.heap.size + 1 + 1) 0 false 0 0 0 0 := (by simpa using Br.new ((w.alloc (.cells #[.int .i64 (up x.s), .bool x.k, .int .i64 x.n, .int .i64 x.lo, .int .i64 x.hi, .int .i64 (up x.p)] 32)).alloc (.cells #[.int .i64 (up y.s), .bool y.k, .int .i64 y.n, .int .i64 y.lo, .int .i64 y.hi, .int .i64 (up y.p)] 32)) 0 false 0 0 0 0 32 : Br (((w.alloc (.cells #[.int .i64 (up x.s), .bool x.k, .int .i64 x.n, .int .i64 x.lo, .int .i64 x.hi, .int .i64 (up x.p)] 32)).alloc (.cells #[.int .i64 (up y.s), .bool y.k, .int .i64 y.n, .int .i64 y.lo, .int .i64 y.hi, .int .i64 (up y.p)] 32)).alloc (.cells #[.int .i64 0, .bool false, .int .i64 0, .int .i64 0, .int .i64 0, .int .i64 0] 32)) (w.heap.size + 1 + 1) 0 false 0 0 0 0)
  have xf : Fz (((w.alloc (.cells #[.int .i64 (up x.s), .bool x.k, .int .i64 x.n, .int .i64 x.lo, .int .i64 x.hi, .int .i64 (up x.p)] 32)).alloc (.cells #[.int .i64 (up y.s), .bool y.k, .int .i64 y.n, .int .i64 y.lo, .int .i64 y.hi, .int .i64 (up y.p)] 32)).alloc (.cells #[.int .i64 0, .bool false, .int .i64 0, .int .i64 0, .int .i64 0, .int .i64 0] 32)) (w.heap.size + 1 + 1) := by simpa using Fz.new ((w.alloc (.cells #[.int .i64 (up x.s), .bool x.k, .int .i64 x.n, .int .i64 x.lo, .int .i64 x.hi, .int .i64 (up x.p)] 32)).alloc (.cells #[.int .i64 (up y.s), .bool y.k, .int .i64 y.n, .int .i64 y.lo, .int .i64 y.hi, .int .i64 (up y.p)] 32)) 0 false 0 0 0 0 32
  have xb : Below w.heap.size w (((w.alloc (.cells #[.int .i64 (up x.s), .bool x.k, .int .i64 x.n, .int .i64 x.lo, .int .i64 x.hi, .int .i64 (up x.p)] 32)).alloc (.cells #[.int .i64 (up y.s), .bool y.k, .int .i64 y.n, .int .i64 y.lo, .int .i64 y.hi, .int .i64 (up y.p)] 32)).alloc (.cells #[.int .i64 0, .bool false, .int .i64 0, .int .i64 0, .int .i64 0, .int .i64 0] 32)) := (by repeat (first | exact Below.refl _ _ | (refine Below.drew ?_) | (refine below_drewN ?_ _) | (refine Below.setCell ?_ (by first | omega | (simp; done) | (simp; omega)) _) | (refine Below.alloc ?_ (by first | omega | (simp; done) | (simp; omega)) _) | (refine Below.trans ?_ (Below.mono (by assumption) (by first | omega | (simp; done) | (simp; omega))))))
  go_enter Tryz.func10, Tryz.ntmps10
  go_upto_region 1 with fail
  go_name_world W hW
  rw [hW] at x0 x1 x2 xf xb xG xP
  clear hW
  obtain ⟨N, hN⟩ : ∃ N, N = w.heap.size := ⟨_, rfl⟩
  rw [← hN] at x0 x1 x2 xf xb ⊢
  have HN : Hid (N = w.heap.size) := hN
  clear hN
  have HA := hide (And.intro x0 (And.intro x2 (And.intro xf (And.intro xb (And.intro x1 (And.intro xG xP))))))
  clear x0 x1 x2 xf xb xG xP
  have a0 := HA.out.1.c0
  have a1 := HA.out.1.c1
  have a2 := HA.out.1.c2
  have a3 := HA.out.1.c3
  have a4 := HA.out.1.c4
  have a5 := HA.out.1.c5
  have d0 := HA.out.2.2.2.2.1.c0
  have d1 := HA.out.2.2.2.2.1.c1
  have d2 := HA.out.2.2.2.2.1.c2
  have d3 := HA.out.2.2.2.2.1.c3
  have d4 := HA.out.2.2.2.2.1.c4
  have d5 := HA.out.2.2.2.2.1.c5
  go_upto_region 2 with (go_at_call 35; refine (c1 _).mono ?_; rintro e wK ⟨rfl, hK⟩)
  go_name_world W2 hW2
  have HB : Hid (Br W2 N (up x.s) x.k x.n x.lo x.hi (up x.p) ∧ Br W2 (N + 1 + 1) 0 false 0 0 0 0 ∧ Fz W2 (N + 1 + 1) ∧ Below N w W2 ∧ Br W2 (N + 1) (up y.s) y.k y.n y.lo y.hi (up y.p) ∧ GlobS W2 ∧ GlobP W2 ∧ K2 W2 wK.heap.size mI mN) := by
    rw [← hW2]
    have k0 := HA.out.1.keep hK
    have k2 := HA.out.2.1.keep hK
    have k3 := HA.out.2.2.1.keep HA.out.2.1.lt hK
    have k4 := HA.out.2.2.2.1.trans (hK.mono (Nat.le_of_lt HA.out.1.lt))
    have k1 := HA.out.2.2.2.2.1.keep hK
    have kG := HA.out.2.2.2.2.2.1.keep hK
    have kP := HA.out.2.2.2.2.2.2.keep hK
    exact ⟨k0.keep ((Below.refl _ _).alloc (Nat.le_refl _) _), k2.keep ((Below.refl _ _).alloc (Nat.le_refl _) _), k3.keep k2.lt ((Below.refl _ _).alloc (Nat.le_refl _) _), k4.alloc (Nat.le_of_lt k0.lt) _, k1.keep ((Below.refl _ _).alloc (Nat.le_refl _) _), kG.keep ((Below.refl _ _).alloc (Nat.le_refl _) _), kP.keep ((Below.refl _ _).alloc (Nat.le_refl _) _), K2.new _ _ _ _⟩
  clear hW2 hK HA c1 a0 a1 a2 a3 a4 a5 d0 d1 d2 d3 d4 d5
  generalize wK.heap.size = T6 at *
  have a0 := HB.out.1.c0
  have a1 := HB.out.1.c1
  have a2 := HB.out.1.c2
  have a3 := HB.out.1.c3
  have a4 := HB.out.1.c4
  have a5 := HB.out.1.c5
  have d0 := HB.out.2.2.2.2.1.c0
  have d1 := HB.out.2.2.2.2.1.c1
  have d2 := HB.out.2.2.2.2.1.c2
  have d3 := HB.out.2.2.2.2.1.c3
  have d4 := HB.out.2.2.2.2.1.c4
  have d5 := HB.out.2.2.2.2.1.c5
  go_upto_region 3 with (go_at_call 36; refine (c2 _).mono ?_; rintro e wK ⟨rfl, hK⟩)
  go_name_world W3 hW3
  have HC : Hid (Br W3 N (up x.s) x.k x.n x.lo x.hi (up x.p) ∧ Br W3 (N + 1 + 1) 0 false 0 0 0 0 ∧ Fz W3 (N + 1 + 1) ∧ Below N w W3 ∧ Br W3 (N + 1) (up y.s) y.k y.n y.lo y.hi (up y.p) ∧ GlobS W3 ∧ GlobP W3 ∧ K2 W3 T6 mI mN ∧ S2 W3 wK.heap.size m.1.1 m.1.2) := by
    rw [← hW3]
    have k0 := HB.out.1.keep hK
    have k2 := HB.out.2.1.keep hK
    have k3 := HB.out.2.2.1.keep HB.out.2.1.lt hK
    have k4 := HB.out.2.2.2.1.trans (hK.mono (Nat.le_of_lt HB.out.1.lt))
    have k1 := HB.out.2.2.2.2.1.keep hK
    have kG := HB.out.2.2.2.2.2.1.keep hK
    have kP := HB.out.2.2.2.2.2.2.1.keep hK
    have k5 := HB.out.2.2.2.2.2.2.2.keep hK
    exact ⟨k0.keep ((Below.refl _ _).alloc (Nat.le_refl _) _), k2.keep ((Below.refl _ _).alloc (Nat.le_refl _) _), k3.keep k2.lt ((Below.refl _ _).alloc (Nat.le_refl _) _), k4.alloc (Nat.le_of_lt k0.lt) _, k1.keep ((Below.refl _ _).alloc (Nat.le_refl _) _), kG.keep ((Below.refl _ _).alloc (Nat.le_refl _) _), kP.keep ((Below.refl _ _).alloc (Nat.le_refl _) _), k5.keep ((Below.refl _ _).alloc (Nat.le_refl _) _), S2.new _ _ _ _⟩
  clear hW3 hK HB c2 a0 a1 a2 a3 a4 a5 d0 d1 d2 d3 d4 d5
  generalize wK.heap.size = T8 at *
  have HCL : Hid (∀ a b : World, (a.cell? ⟨N, 0, none⟩ = some (.int .i64 (up x.s)) ∧ a.cell? ⟨N, 5, none⟩ = some (.int .i64 (up x.p)) ∧ a.cell? ⟨N + 1, 0, none⟩ = some (.int .i64 (up y.s)) ∧ a.cell? ⟨N + 1, 5, none⟩ = some (.int .i64 (up y.p)) ∧ a.cell? ⟨T6, 0, none⟩ = some (.bool mI) ∧ a.cell? ⟨T6, 1, none⟩ = some (.int .i64 mN) ∧ a.cell? ⟨T8, 0, none⟩ = some (.int .i64 m.1.1) ∧ a.cell? ⟨T8, 1, none⟩ = some (.int .i64 m.1.2) ∧ Hid (Br a N (up x.s) x.k x.n x.lo x.hi (up x.p) ∧ Br a (N + 1 + 1) 0 false 0 0 0 0 ∧ Fz a (N + 1 + 1) ∧ Below N w a ∧ Br a (N + 1) (up y.s) y.k y.n y.lo y.hi (up y.p) ∧ GlobS a ∧ GlobP a ∧ K2 a T6 mI mN ∧ S2 a T8 m.1.1 m.1.2)) → Below a.heap.size a b → (b.cell? ⟨N, 0, none⟩ = some (.int .i64 (up x.s)) ∧ b.cell? ⟨N, 5, none⟩ = some (.int .i64 (up x.p)) ∧ b.cell? ⟨N + 1, 0, none⟩ = some (.int .i64 (up y.s)) ∧ b.cell? ⟨N + 1, 5, none⟩ = some (.int .i64 (up y.p)) ∧ b.cell? ⟨T6, 0, none⟩ = some (.bool mI) ∧ b.cell? ⟨T6, 1, none⟩ = some (.int .i64 mN) ∧ b.cell? ⟨T8, 0, none⟩ = some (.int .i64 m.1.1) ∧ b.cell? ⟨T8, 1, none⟩ = some (.int .i64 m.1.2) ∧ Hid (Br b N (up x.s) x.k x.n x.lo x.hi (up x.p) ∧ Br b (N + 1 + 1) 0 false 0 0 0 0 ∧ Fz b (N + 1 + 1) ∧ Below N w b ∧ Br b (N + 1) (up y.s) y.k y.n y.lo y.hi (up y.p) ∧ GlobS b ∧ GlobP b ∧ K2 b T6 mI mN ∧ S2 b T8 m.1.1 m.1.2))) := fun a b h hb => by
    have y9 := (h.2.2.2.2.2.2.2.2).out
    have z9 : Br b N (up x.s) x.k x.n x.lo x.hi (up x.p) ∧ Br b (N + 1 + 1) 0 false 0 0 0 0 ∧ Fz b (N + 1 + 1) ∧ Below N w b ∧ Br b (N + 1) (up y.s) y.k y.n y.lo y.hi (up y.p) ∧ GlobS b ∧ GlobP b ∧ K2 b T6 mI mN ∧ S2 b T8 m.1.1 m.1.2 := ⟨y9.1.keep hb, y9.2.1.keep hb, y9.2.2.1.keep y9.2.1.lt hb, y9.2.2.2.1.trans (hb.mono (Nat.le_of_lt y9.1.lt)), y9.2.2.2.2.1.keep hb, y9.2.2.2.2.2.1.keep hb, y9.2.2.2.2.2.2.1.keep hb, y9.2.2.2.2.2.2.2.1.keep hb, y9.2.2.2.2.2.2.2.2.keep hb⟩
    exact ⟨z9.1.c0, z9.1.c5, z9.2.2.2.2.1.c0, z9.2.2.2.2.1.c5, z9.2.2.2.2.2.2.2.1.1, z9.2.2.2.2.2.2.2.1.2, z9.2.2.2.2.2.2.2.2.1, z9.2.2.2.2.2.2.2.2.2, z9⟩
  have HPUT : Hid (∀ (a : World) (q : Nat) (t1 t2 t3 t4 t5 t6 : Value), ((N + 1 + 1) < q ∧ T6 < q ∧ T8 < q) → (a.cell? ⟨N, 0, none⟩ = some (.int .i64 (up x.s)) ∧ a.cell? ⟨N, 5, none⟩ = some (.int .i64 (up x.p)) ∧ a.cell? ⟨N + 1, 0, none⟩ = some (.int .i64 (up y.s)) ∧ a.cell? ⟨N + 1, 5, none⟩ = some (.int .i64 (up y.p)) ∧ a.cell? ⟨T6, 0, none⟩ = some (.bool mI) ∧ a.cell? ⟨T6, 1, none⟩ = some (.int .i64 mN) ∧ a.cell? ⟨T8, 0, none⟩ = some (.int .i64 m.1.1) ∧ a.cell? ⟨T8, 1, none⟩ = some (.int .i64 m.1.2) ∧ Hid (Br a N (up x.s) x.k x.n x.lo x.hi (up x.p) ∧ Br a (N + 1 + 1) 0 false 0 0 0 0 ∧ Fz a (N + 1 + 1) ∧ Below N w a ∧ Br a (N + 1) (up y.s) y.k y.n y.lo y.hi (up y.p) ∧ GlobS a ∧ GlobP a ∧ K2 a T6 mI mN ∧ S2 a T8 m.1.1 m.1.2)) → ((st6 a q t1 t2 t3 t4 t5 t6).cell? ⟨N, 0, none⟩ = some (.int .i64 (up x.s)) ∧ (st6 a q t1 t2 t3 t4 t5 t6).cell? ⟨N, 5, none⟩ = some (.int .i64 (up x.p)) ∧ (st6 a q t1 t2 t3 t4 t5 t6).cell? ⟨N + 1, 0, none⟩ = some (.int .i64 (up y.s)) ∧ (st6 a q t1 t2 t3 t4 t5 t6).cell? ⟨N + 1, 5, none⟩ = some (.int .i64 (up y.p)) ∧ (st6 a q t1 t2 t3 t4 t5 t6).cell? ⟨T6, 0, none⟩ = some (.bool mI) ∧ (st6 a q t1 t2 t3 t4 t5 t6).cell? ⟨T6, 1, none⟩ = some (.int .i64 mN) ∧ (st6 a q t1 t2 t3 t4 t5 t6).cell? ⟨T8, 0, none⟩ = some (.int .i64 m.1.1) ∧ (st6 a q t1 t2 t3 t4 t5 t6).cell? ⟨T8, 1, none⟩ = some (.int .i64 m.1.2) ∧ Hid (Br (st6 a q t1 t2 t3 t4 t5 t6) N (up x.s) x.k x.n x.lo x.hi (up x.p) ∧ Br (st6 a q t1 t2 t3 t4 t5 t6) (N + 1 + 1) 0 false 0 0 0 0 ∧ Fz (st6 a q t1 t2 t3 t4 t5 t6) (N + 1 + 1) ∧ Below N w (st6 a q t1 t2 t3 t4 t5 t6) ∧ Br (st6 a q t1 t2 t3 t4 t5 t6) (N + 1) (up y.s) y.k y.n y.lo y.hi (up y.p) ∧ GlobS (st6 a q t1 t2 t3 t4 t5 t6) ∧ GlobP (st6 a q t1 t2 t3 t4 t5 t6) ∧ K2 (st6 a q t1 t2 t3 t4 t5 t6) T6 mI mN ∧ S2 (st6 a q t1 t2 t3 t4 t5 t6) T8 m.1.1 m.1.2))) := fun a q t1 t2 t3 t4 t5 t6 hq h => by
    have y9 := (h.2.2.2.2.2.2.2.2).out
    have z9 : Br (st6 a q t1 t2 t3 t4 t5 t6) N (up x.s) x.k x.n x.lo x.hi (up x.p) ∧ Br (st6 a q t1 t2 t3 t4 t5 t6) (N + 1 + 1) 0 false 0 0 0 0 ∧ Fz (st6 a q t1 t2 t3 t4 t5 t6) (N + 1 + 1) ∧ Below N w (st6 a q t1 t2 t3 t4 t5 t6) ∧ Br (st6 a q t1 t2 t3 t4 t5 t6) (N + 1) (up y.s) y.k y.n y.lo y.hi (up y.p) ∧ GlobS (st6 a q t1 t2 t3 t4 t5 t6) ∧ GlobP (st6 a q t1 t2 t3 t4 t5 t6) ∧ K2 (st6 a q t1 t2 t3 t4 t5 t6) T6 mI mN ∧ S2 (st6 a q t1 t2 t3 t4 t5 t6) T8 m.1.1 m.1.2 := ⟨y9.1.put (by omega) _ _ _ _ _ _, y9.2.1.put (by omega) _ _ _ _ _ _, y9.2.2.1.put _ _ _ _ _ _, st6_below y9.2.2.2.1 _ (by omega) _ _ _ _ _ _, y9.2.2.2.2.1.put (by omega) _ _ _ _ _ _, y9.2.2.2.2.2.1.put (by omega) _ _ _ _ _ _, y9.2.2.2.2.2.2.1.put (by omega) _ _ _ _ _ _, y9.2.2.2.2.2.2.2.1.put (by omega) _ _ _ _ _ _, y9.2.2.2.2.2.2.2.2.put (by omega) _ _ _ _ _ _⟩
    exact ⟨z9.1.c0, z9.1.c5, z9.2.2.2.2.1.c0, z9.2.2.2.2.1.c5, z9.2.2.2.2.2.2.2.1.1, z9.2.2.2.2.2.2.2.1.2, z9.2.2.2.2.2.2.2.2.1, z9.2.2.2.2.2.2.2.2.2, z9⟩
  have hS0 : W3.cell? ⟨N, 0, none⟩ = some (.int .i64 (up x.s)) ∧ W3.cell? ⟨N, 5, none⟩ = some (.int .i64 (up x.p)) ∧ W3.cell? ⟨N + 1, 0, none⟩ = some (.int .i64 (up y.s)) ∧ W3.cell? ⟨N + 1, 5, none⟩ = some (.int .i64 (up y.p)) ∧ W3.cell? ⟨T6, 0, none⟩ = some (.bool mI) ∧ W3.cell? ⟨T6, 1, none⟩ = some (.int .i64 mN) ∧ W3.cell? ⟨T8, 0, none⟩ = some (.int .i64 m.1.1) ∧ W3.cell? ⟨T8, 1, none⟩ = some (.int .i64 m.1.2) ∧ Hid (Br W3 N (up x.s) x.k x.n x.lo x.hi (up x.p) ∧ Br W3 (N + 1 + 1) 0 false 0 0 0 0 ∧ Fz W3 (N + 1 + 1) ∧ Below N w W3 ∧ Br W3 (N + 1) (up y.s) y.k y.n y.lo y.hi (up y.p) ∧ GlobS W3 ∧ GlobP W3 ∧ K2 W3 T6 mI mN ∧ S2 W3 T8 m.1.1 m.1.2) := ⟨HC.out.1.c0, HC.out.1.c5, HC.out.2.2.2.2.1.c0, HC.out.2.2.2.2.1.c5, HC.out.2.2.2.2.2.2.2.1.1, HC.out.2.2.2.2.2.2.2.1.2, HC.out.2.2.2.2.2.2.2.2.1, HC.out.2.2.2.2.2.2.2.2.2, HC.out⟩
  go_cut [12] (fun vb wy => ∃ q, vb = .pointer (some ⟨q, 0, none⟩) ∧ Hid (Br wy q (up gs) mI mN m.1.1 m.1.2 (up gp) ∧ Br wy (N + 1 + 1) 0 false 0 0 0 0 ∧ Fz wy (N + 1 + 1) ∧ Below N w wy))
  case first =>
    refine wp_region_held_drew (S := fun w' => w'.cell? ⟨N, 0, none⟩ = some (.int .i64 (up x.s)) ∧ w'.cell? ⟨N, 5, none⟩ = some (.int .i64 (up x.p)) ∧ w'.cell? ⟨N + 1, 0, none⟩ = some (.int .i64 (up y.s)) ∧ w'.cell? ⟨N + 1, 5, none⟩ = some (.int .i64 (up y.p)) ∧ w'.cell? ⟨T6, 0, none⟩ = some (.bool mI) ∧ w'.cell? ⟨T6, 1, none⟩ = some (.int .i64 mN) ∧ w'.cell? ⟨T8, 0, none⟩ = some (.int .i64 m.1.1) ∧ w'.cell? ⟨T8, 1, none⟩ = some (.int .i64 m.1.2) ∧ Hid (Br w' N (up x.s) x.k x.n x.lo x.hi (up x.p) ∧ Br w' (N + 1 + 1) 0 false 0 0 0 0 ∧ Fz w' (N + 1 + 1) ∧ Below N w w' ∧ Br w' (N + 1) (up y.s) y.k y.n y.lo y.hi (up y.p) ∧ GlobS w' ∧ GlobP w' ∧ K2 w' T6 mI mN ∧ S2 w' T8 m.1.1 m.1.2)) (by kernel_rfl) (HCL.out _ _ hS0 ((Below.refl _ _).drew)) (fun hH0 => ?_)
    obtain ⟨w0, hw0⟩ : ∃ w0, w0 = W3.drew := ⟨_, rfl⟩
    rw [← hw0] at hH0 ⊢
    clear hw0
    refine wpAnyH_take (i := 0) (oi := ({ dst := some 31, op := Op.move (Operand.tmp 0), type := 3, pos := "fact.go:95", after := #[], guard := none } : Oper)) (v := ?_) rfl (by kernel_rfl) (by kernel_rfl) (by kernel_rfl) (fun _ _ _ h => h) (Or.inl ⟨by rfl, ?_⟩) (by assumption) ?_
    rotate_left
    · (intro wz hSw; (try dsimp only at hSw); go_simp; try with_reducible rfl)
    simp only [Act.put, List.setIfInBounds_toArray, List.set_cons_zero, List.set_cons_succ]
    refine wpAnyH_take (i := 1) (oi := ({ dst := some 32, op := Op.fieldAddr 32 (Operand.tmp 4) 0, type := 0, pos := "fact.go:95", after := #[], guard := none } : Oper)) (v := ?_) rfl (by kernel_rfl) (by kernel_rfl) (by kernel_rfl) (fun _ _ _ h => h) (Or.inl ⟨by rfl, ?_⟩) (by assumption) ?_
    rotate_left
    · (intro wz hSw; (try dsimp only at hSw); go_simp; try with_reducible rfl)
    simp only [Act.put, List.setIfInBounds_toArray, List.set_cons_zero, List.set_cons_succ]
    refine wpAnyH_take (i := 2) (oi := ({ dst := some 33, op := Op.load 3 (Operand.tmp 32), type := 3, pos := "fact.go:95", after := #[{ on := 1, ground := Ground.data }], guard := none } : Oper)) (v := ?_) rfl (by kernel_rfl) (by kernel_rfl) (by kernel_rfl) (fun _ _ _ h => h) (Or.inl ⟨by rfl, ?_⟩) (by assumption) ?_
    rotate_left
    · (intro wz hSw; (try dsimp only at hSw); go_simp; try with_reducible rfl)
    simp only [Act.put, List.setIfInBounds_toArray, List.set_cons_zero, List.set_cons_succ]
    refine wpAnyH_take (i := 3) (oi := ({ dst := some 34, op := Op.fieldAddr 32 (Operand.tmp 5) 0, type := 0, pos := "fact.go:95", after := #[], guard := none } : Oper)) (v := ?_) rfl (by kernel_rfl) (by kernel_rfl) (by kernel_rfl) (fun _ _ _ h => h) (Or.inl ⟨by rfl, ?_⟩) (by assumption) ?_
    rotate_left
    · (intro wz hSw; (try dsimp only at hSw); go_simp; try with_reducible rfl)
    simp only [Act.put, List.setIfInBounds_toArray, List.set_cons_zero, List.set_cons_succ]
    refine wpAnyH_take (i := 4) (oi := ({ dst := some 35, op := Op.load 3 (Operand.tmp 34), type := 3, pos := "fact.go:95", after := #[{ on := 3, ground := Ground.data }], guard := none } : Oper)) (v := ?_) rfl (by kernel_rfl) (by kernel_rfl) (by kernel_rfl) (fun _ _ _ h => h) (Or.inl ⟨by rfl, ?_⟩) (by assumption) ?_
    rotate_left
    · (intro wz hSw; (try dsimp only at hSw); go_simp; try with_reducible rfl)
    simp only [Act.put, List.setIfInBounds_toArray, List.set_cons_zero, List.set_cons_succ]
    refine wpAnyH_take (i := 6) (oi := ({ dst := some 37, op := Op.load 29 (Operand.tmp 8), type := 29, pos := "fact.go:95", after := #[], guard := none } : Oper)) (v := ?_) rfl (by kernel_rfl) (by kernel_rfl) (by kernel_rfl) (fun _ _ _ h => h) (Or.inl ⟨by rfl, ?_⟩) (by assumption) ?_
    rotate_left
    · (intro wz hSw; (try dsimp only at hSw); go_simp; try with_reducible rfl)
    simp only [Act.put, List.setIfInBounds_toArray, List.set_cons_zero, List.set_cons_succ]
    refine wpAnyH_take (i := 7) (oi := ({ dst := some 38, op := Op.load 30 (Operand.tmp 10), type := 30, pos := "fact.go:95", after := #[], guard := none } : Oper)) (v := ?_) rfl (by kernel_rfl) (by kernel_rfl) (by kernel_rfl) (fun _ _ _ h => h) (Or.inl ⟨by rfl, ?_⟩) (by assumption) ?_
    rotate_left
    · (intro wz hSw; (try dsimp only at hSw); go_simp; try with_reducible rfl)
    simp only [Act.put, List.setIfInBounds_toArray, List.set_cons_zero, List.set_cons_succ]
    refine wpAnyH_take (i := 8) (oi := ({ dst := some 39, op := Op.move (Operand.tmp 0), type := 3, pos := "fact.go:95", after := #[], guard := none } : Oper)) (v := ?_) rfl (by kernel_rfl) (by kernel_rfl) (by kernel_rfl) (fun _ _ _ h => h) (Or.inl ⟨by rfl, ?_⟩) (by assumption) ?_
    rotate_left
    · (intro wz hSw; (try dsimp only at hSw); go_simp; try with_reducible rfl)
    simp only [Act.put, List.setIfInBounds_toArray, List.set_cons_zero, List.set_cons_succ]
    refine wpAnyH_take (i := 9) (oi := ({ dst := some 40, op := Op.fieldAddr 32 (Operand.tmp 4) 3, type := 0, pos := "fact.go:95", after := #[], guard := none } : Oper)) (v := ?_) rfl (by kernel_rfl) (by kernel_rfl) (by kernel_rfl) (fun _ _ _ h => h) (Or.inl ⟨by rfl, ?_⟩) (by assumption) ?_
    rotate_left
    · (intro wz hSw; (try dsimp only at hSw); go_simp; try with_reducible rfl)
    simp only [Act.put, List.setIfInBounds_toArray, List.set_cons_zero, List.set_cons_succ]
    refine wpAnyH_take (i := 10) (oi := ({ dst := some 41, op := Op.load 3 (Operand.tmp 40), type := 3, pos := "fact.go:95", after := #[{ on := 9, ground := Ground.data }], guard := none } : Oper)) (v := ?_) rfl (by kernel_rfl) (by kernel_rfl) (by kernel_rfl) (fun _ _ _ h => h) (Or.inl ⟨by rfl, ?_⟩) (by assumption) ?_
    rotate_left
    · (intro wz hSw; (try dsimp only at hSw); go_simp; try with_reducible rfl)
    simp only [Act.put, List.setIfInBounds_toArray, List.set_cons_zero, List.set_cons_succ]
    refine wpAnyH_take (i := 11) (oi := ({ dst := some 42, op := Op.fieldAddr 32 (Operand.tmp 5) 3, type := 0, pos := "fact.go:95", after := #[], guard := none } : Oper)) (v := ?_) rfl (by kernel_rfl) (by kernel_rfl) (by kernel_rfl) (fun _ _ _ h => h) (Or.inl ⟨by rfl, ?_⟩) (by assumption) ?_
    rotate_left
    · (intro wz hSw; (try dsimp only at hSw); go_simp; try with_reducible rfl)
    simp only [Act.put, List.setIfInBounds_toArray, List.set_cons_zero, List.set_cons_succ]
    refine wpAnyH_take (i := 12) (oi := ({ dst := some 43, op := Op.load 3 (Operand.tmp 42), type := 3, pos := "fact.go:95", after := #[{ on := 11, ground := Ground.data }], guard := none } : Oper)) (v := ?_) rfl (by kernel_rfl) (by kernel_rfl) (by kernel_rfl) (fun _ _ _ h => h) (Or.inl ⟨by rfl, ?_⟩) (by assumption) ?_
    rotate_left
    · (intro wz hSw; (try dsimp only at hSw); go_simp; try with_reducible rfl)
    simp only [Act.put, List.setIfInBounds_toArray, List.set_cons_zero, List.set_cons_succ]
    refine wpAnyH_ready (rs := [5, 15]) (by kernel_rfl) (by simp) ?_
    refine AllReadyH.cons (o := ({ dst := some 36, op := Op.call { callee := Callee.value (Operand.func 37), args := #[Operand.tmp 31, Operand.tmp 33, Operand.tmp 35], argTypes := #[3, 3, 3] }, type := 3, pos := "fact.go:95", after := #[{ on := 0, ground := Ground.data }, { on := 2, ground := Ground.data }, { on := 4, ground := Ground.data }], guard := none } : Oper)) rfl (fun K hK => ?_) (AllReadyH.cons (o := ({ dst := some 12, op := Op.alloc 32, type := 0, pos := "fact.go:95", after := #[], guard := none } : Oper)) rfl (fun K hK => ?_) AllReadyH.nil)
    · go_simp
      go_at_call 37
      refine (c3 _ (hH0.2.2.2.2.2.2.2.2).out.2.2.2.2.2.1).mono ?_
      rintro e w1 ⟨rfl, hb1⟩
      refine hK.out _ _ (HCL.out _ _ hH0 hb1) (fun hH1 => ?_)
      clear hK K
      refine wpAnyH_ready (rs := [13, 15]) (by kernel_rfl) (by simp) ?_
      refine AllReadyH.cons (o := ({ dst := some 44, op := Op.call { callee := Callee.value (Operand.func 38), args := #[Operand.tmp 39, Operand.tmp 41, Operand.tmp 43], argTypes := #[3, 3, 3] }, type := 3, pos := "fact.go:95", after := #[{ on := 8, ground := Ground.data }, { on := 10, ground := Ground.data }, { on := 12, ground := Ground.data }, { on := 5, ground := Ground.chain }], guard := none } : Oper)) rfl (fun K hK => ?_) (AllReadyH.cons (o := ({ dst := some 12, op := Op.alloc 32, type := 0, pos := "fact.go:95", after := #[], guard := none } : Oper)) rfl (fun K hK => ?_) AllReadyH.nil)
      · go_simp
        go_at_call 38
        refine (c4 _ (hH1.2.2.2.2.2.2.2.2).out.2.2.2.2.2.2.1).mono ?_
        rintro e w2 ⟨rfl, hb2⟩
        refine hK.out _ _ (HCL.out _ _ hH1 hb2) (fun hH2 => ?_)
        clear hK K
        refine wpAnyH_take (i := 14) (oi := ({ dst := some 45, op := Op.build 32 #[(0, Operand.tmp 36), (1, Operand.tmp 37), (2, Operand.tmp 38), (3, Operand.tmp 44)], type := 32, pos := "fact.go:95", after := #[{ on := 5, ground := Ground.data }, { on := 6, ground := Ground.data }, { on := 7, ground := Ground.data }, { on := 13, ground := Ground.data }], guard := none } : Oper)) (v := ?_) rfl (by kernel_rfl) (by kernel_rfl) (by kernel_rfl) (fun _ _ _ h => h) (Or.inl ⟨by rfl, ?_⟩) (by assumption) ?_
        rotate_left
        · (intro wz hSw; (try dsimp only at hSw); go_simp; try with_reducible rfl)
        simp only [Act.put, List.setIfInBounds_toArray, List.set_cons_zero, List.set_cons_succ]
        refine wpAnyH_ready (rs := [15]) (by kernel_rfl) (by simp) ?_
        refine AllReadyH.cons (o := ({ dst := some 12, op := Op.alloc 32, type := 0, pos := "fact.go:95", after := #[], guard := none } : Oper)) rfl (fun K hK => ?_) AllReadyH.nil
        · go_simp
          have hb3 : Below w2.heap.size w2 (w2.alloc (.cells #[.int .i64 0, .bool false, .int .i64 0, .int .i64 0, .int .i64 0, .int .i64 0] 32)) := (Below.refl _ _).alloc (Nat.le_refl _) _
          have M3 := Br.new w2 0 false 0 0 0 0 32
          have G3 := Fz.new w2 0 false 0 0 0 0 32
          have neM : (N + 1 + 1) < w2.heap.size ∧ T6 < w2.heap.size ∧ T8 < w2.heap.size := ⟨(hH2.2.2.2.2.2.2.2.2).out.2.1.lt, (hH2.2.2.2.2.2.2.2.2).out.2.2.2.2.2.2.2.1.lt, (hH2.2.2.2.2.2.2.2.2).out.2.2.2.2.2.2.2.2.lt⟩
          refine hK.out _ _ (HCL.out _ _ hH2 hb3) (fun hH3 => ?_)
          clear hK K
          obtain ⟨w3, hw3⟩ : ∃ w3, w3 = (w2.alloc (.cells #[.int .i64 0, .bool false, .int .i64 0, .int .i64 0, .int .i64 0, .int .i64 0] 32)) := ⟨_, rfl⟩
          rw [← hw3] at hH3 M3 G3 ⊢
          clear hw3 hb3
          generalize w2.heap.size = kM at *
          refine wpAnyH_ready (rs := [16]) (by kernel_rfl) (by simp) ?_
          refine AllReadyH.cons (o := ({ dst := none, op := Op.store 32 (Operand.tmp 12) (Operand.tmp 45), type := 0, pos := "fact.go:95", after := #[{ on := 15, ground := Ground.data }, { on := 14, ground := Ground.data }, { on := 13, ground := Ground.chain }, { on := 0, ground := Ground.phase }, { on := 1, ground := Ground.phase }, { on := 2, ground := Ground.phase }, { on := 3, ground := Ground.phase }, { on := 4, ground := Ground.phase }, { on := 5, ground := Ground.phase }, { on := 6, ground := Ground.phase }, { on := 7, ground := Ground.phase }, { on := 8, ground := Ground.phase }, { on := 9, ground := Ground.phase }, { on := 10, ground := Ground.phase }, { on := 11, ground := Ground.phase }, { on := 12, ground := Ground.phase }, { on := 13, ground := Ground.phase }, { on := 14, ground := Ground.phase }, { on := 15, ground := Ground.phase }], guard := none } : Oper)) rfl (fun K hK => ?_) AllReadyH.nil
          · have c0 := M3.c0
            have c1 := M3.c1
            have c2 := M3.c2
            have c3 := M3.c3
            have c4 := M3.c4
            have c5 := M3.c5
            have f0 := G3.f0
            have f1 := G3.f1
            have f2 := G3.f2
            have f3 := G3.f3
            have f4 := G3.f4
            have f5 := G3.f5
            go_simp
            have M4 := M3.wrote (up gs) mI mN m.1.1 m.1.2 (up gp)
            refine hK.out _ _ (HPUT.out _ kM _ _ _ _ _ _ neM hH3) (fun hH4 => ?_)
            clear hK K c0 c1 c2 c3 c4 c5 f0 f1 f2 f3 f4 f5
            refine wpAnyH_done (by kernel_rfl) ?_ _
            go_wp2
            go_meet
            case rel => exact ⟨_, rfl, M4, (hH4.2.2.2.2.2.2.2.2).out.2.1, (hH4.2.2.2.2.2.2.2.2).out.2.2.1, (hH4.2.2.2.2.2.2.2.2).out.2.2.2.1⟩
      · go_simp
        have hb2 : Below w1.heap.size w1 (w1.alloc (.cells #[.int .i64 0, .bool false, .int .i64 0, .int .i64 0, .int .i64 0, .int .i64 0] 32)) := (Below.refl _ _).alloc (Nat.le_refl _) _
        have M2 := Br.new w1 0 false 0 0 0 0 32
        have G2 := Fz.new w1 0 false 0 0 0 0 32
        have neM : (N + 1 + 1) < w1.heap.size ∧ T6 < w1.heap.size ∧ T8 < w1.heap.size := ⟨(hH1.2.2.2.2.2.2.2.2).out.2.1.lt, (hH1.2.2.2.2.2.2.2.2).out.2.2.2.2.2.2.2.1.lt, (hH1.2.2.2.2.2.2.2.2).out.2.2.2.2.2.2.2.2.lt⟩
        refine hK.out _ _ (HCL.out _ _ hH1 hb2) (fun hH2 => ?_)
        clear hK K
        obtain ⟨w2, hw2⟩ : ∃ w2, w2 = (w1.alloc (.cells #[.int .i64 0, .bool false, .int .i64 0, .int .i64 0, .int .i64 0, .int .i64 0] 32)) := ⟨_, rfl⟩
        rw [← hw2] at hH2 M2 G2 ⊢
        clear hw2 hb2
        generalize w1.heap.size = kM at *
        refine wpAnyH_ready (rs := [13]) (by kernel_rfl) (by simp) ?_
        refine AllReadyH.cons (o := ({ dst := some 44, op := Op.call { callee := Callee.value (Operand.func 38), args := #[Operand.tmp 39, Operand.tmp 41, Operand.tmp 43], argTypes := #[3, 3, 3] }, type := 3, pos := "fact.go:95", after := #[{ on := 8, ground := Ground.data }, { on := 10, ground := Ground.data }, { on := 12, ground := Ground.data }, { on := 5, ground := Ground.chain }], guard := none } : Oper)) rfl (fun K hK => ?_) AllReadyH.nil
        · go_simp
          go_at_call 38
          refine (c4 _ (hH2.2.2.2.2.2.2.2.2).out.2.2.2.2.2.2.1).mono ?_
          rintro e w3 ⟨rfl, hb3⟩
          have M3 := M2.keep hb3
          have G3 := G2.keep M2.lt hb3
          refine hK.out _ _ (HCL.out _ _ hH2 hb3) (fun hH3 => ?_)
          clear hK K
          refine wpAnyH_take (i := 14) (oi := ({ dst := some 45, op := Op.build 32 #[(0, Operand.tmp 36), (1, Operand.tmp 37), (2, Operand.tmp 38), (3, Operand.tmp 44)], type := 32, pos := "fact.go:95", after := #[{ on := 5, ground := Ground.data }, { on := 6, ground := Ground.data }, { on := 7, ground := Ground.data }, { on := 13, ground := Ground.data }], guard := none } : Oper)) (v := ?_) rfl (by kernel_rfl) (by kernel_rfl) (by kernel_rfl) (fun _ _ _ h => h) (Or.inl ⟨by rfl, ?_⟩) (by assumption) ?_
          rotate_left
          · (intro wz hSw; (try dsimp only at hSw); go_simp; try with_reducible rfl)
          simp only [Act.put, List.setIfInBounds_toArray, List.set_cons_zero, List.set_cons_succ]
          refine wpAnyH_ready (rs := [16]) (by kernel_rfl) (by simp) ?_
          refine AllReadyH.cons (o := ({ dst := none, op := Op.store 32 (Operand.tmp 12) (Operand.tmp 45), type := 0, pos := "fact.go:95", after := #[{ on := 15, ground := Ground.data }, { on := 14, ground := Ground.data }, { on := 13, ground := Ground.chain }, { on := 0, ground := Ground.phase }, { on := 1, ground := Ground.phase }, { on := 2, ground := Ground.phase }, { on := 3, ground := Ground.phase }, { on := 4, ground := Ground.phase }, { on := 5, ground := Ground.phase }, { on := 6, ground := Ground.phase }, { on := 7, ground := Ground.phase }, { on := 8, ground := Ground.phase }, { on := 9, ground := Ground.phase }, { on := 10, ground := Ground.phase }, { on := 11, ground := Ground.phase }, { on := 12, ground := Ground.phase }, { on := 13, ground := Ground.phase }, { on := 14, ground := Ground.phase }, { on := 15, ground := Ground.phase }], guard := none } : Oper)) rfl (fun K hK => ?_) AllReadyH.nil
          · have c0 := M3.c0
            have c1 := M3.c1
            have c2 := M3.c2
            have c3 := M3.c3
            have c4 := M3.c4
            have c5 := M3.c5
            have f0 := G3.f0
            have f1 := G3.f1
            have f2 := G3.f2
            have f3 := G3.f3
            have f4 := G3.f4
            have f5 := G3.f5
            go_simp
            have M4 := M3.wrote (up gs) mI mN m.1.1 m.1.2 (up gp)
            refine hK.out _ _ (HPUT.out _ kM _ _ _ _ _ _ neM hH3) (fun hH4 => ?_)
            clear hK K c0 c1 c2 c3 c4 c5 f0 f1 f2 f3 f4 f5
            refine wpAnyH_done (by kernel_rfl) ?_ _
            go_wp2
            go_meet
            case rel => exact ⟨_, rfl, M4, (hH4.2.2.2.2.2.2.2.2).out.2.1, (hH4.2.2.2.2.2.2.2.2).out.2.2.1, (hH4.2.2.2.2.2.2.2.2).out.2.2.2.1⟩
    · go_simp
      have hb1 : Below w0.heap.size w0 (w0.alloc (.cells #[.int .i64 0, .bool false, .int .i64 0, .int .i64 0, .int .i64 0, .int .i64 0] 32)) := (Below.refl _ _).alloc (Nat.le_refl _) _
      have M1 := Br.new w0 0 false 0 0 0 0 32
      have G1 := Fz.new w0 0 false 0 0 0 0 32
      have neM : (N + 1 + 1) < w0.heap.size ∧ T6 < w0.heap.size ∧ T8 < w0.heap.size := ⟨(hH0.2.2.2.2.2.2.2.2).out.2.1.lt, (hH0.2.2.2.2.2.2.2.2).out.2.2.2.2.2.2.2.1.lt, (hH0.2.2.2.2.2.2.2.2).out.2.2.2.2.2.2.2.2.lt⟩
      refine hK.out _ _ (HCL.out _ _ hH0 hb1) (fun hH1 => ?_)
      clear hK K
      obtain ⟨w1, hw1⟩ : ∃ w1, w1 = (w0.alloc (.cells #[.int .i64 0, .bool false, .int .i64 0, .int .i64 0, .int .i64 0, .int .i64 0] 32)) := ⟨_, rfl⟩
      rw [← hw1] at hH1 M1 G1 ⊢
      clear hw1 hb1
      generalize w0.heap.size = kM at *
      refine wpAnyH_ready (rs := [5]) (by kernel_rfl) (by simp) ?_
      refine AllReadyH.cons (o := ({ dst := some 36, op := Op.call { callee := Callee.value (Operand.func 37), args := #[Operand.tmp 31, Operand.tmp 33, Operand.tmp 35], argTypes := #[3, 3, 3] }, type := 3, pos := "fact.go:95", after := #[{ on := 0, ground := Ground.data }, { on := 2, ground := Ground.data }, { on := 4, ground := Ground.data }], guard := none } : Oper)) rfl (fun K hK => ?_) AllReadyH.nil
      · go_simp
        go_at_call 37
        refine (c3 _ (hH1.2.2.2.2.2.2.2.2).out.2.2.2.2.2.1).mono ?_
        rintro e w2 ⟨rfl, hb2⟩
        have M2 := M1.keep hb2
        have G2 := G1.keep M1.lt hb2
        refine hK.out _ _ (HCL.out _ _ hH1 hb2) (fun hH2 => ?_)
        clear hK K
        refine wpAnyH_ready (rs := [13]) (by kernel_rfl) (by simp) ?_
        refine AllReadyH.cons (o := ({ dst := some 44, op := Op.call { callee := Callee.value (Operand.func 38), args := #[Operand.tmp 39, Operand.tmp 41, Operand.tmp 43], argTypes := #[3, 3, 3] }, type := 3, pos := "fact.go:95", after := #[{ on := 8, ground := Ground.data }, { on := 10, ground := Ground.data }, { on := 12, ground := Ground.data }, { on := 5, ground := Ground.chain }], guard := none } : Oper)) rfl (fun K hK => ?_) AllReadyH.nil
        · go_simp
          go_at_call 38
          refine (c4 _ (hH2.2.2.2.2.2.2.2.2).out.2.2.2.2.2.2.1).mono ?_
          rintro e w3 ⟨rfl, hb3⟩
          have M3 := M2.keep hb3
          have G3 := G2.keep M2.lt hb3
          refine hK.out _ _ (HCL.out _ _ hH2 hb3) (fun hH3 => ?_)
          clear hK K
          refine wpAnyH_take (i := 14) (oi := ({ dst := some 45, op := Op.build 32 #[(0, Operand.tmp 36), (1, Operand.tmp 37), (2, Operand.tmp 38), (3, Operand.tmp 44)], type := 32, pos := "fact.go:95", after := #[{ on := 5, ground := Ground.data }, { on := 6, ground := Ground.data }, { on := 7, ground := Ground.data }, { on := 13, ground := Ground.data }], guard := none } : Oper)) (v := ?_) rfl (by kernel_rfl) (by kernel_rfl) (by kernel_rfl) (fun _ _ _ h => h) (Or.inl ⟨by rfl, ?_⟩) (by assumption) ?_
          rotate_left
          · (intro wz hSw; (try dsimp only at hSw); go_simp; try with_reducible rfl)
          simp only [Act.put, List.setIfInBounds_toArray, List.set_cons_zero, List.set_cons_succ]
          refine wpAnyH_ready (rs := [16]) (by kernel_rfl) (by simp) ?_
          refine AllReadyH.cons (o := ({ dst := none, op := Op.store 32 (Operand.tmp 12) (Operand.tmp 45), type := 0, pos := "fact.go:95", after := #[{ on := 15, ground := Ground.data }, { on := 14, ground := Ground.data }, { on := 13, ground := Ground.chain }, { on := 0, ground := Ground.phase }, { on := 1, ground := Ground.phase }, { on := 2, ground := Ground.phase }, { on := 3, ground := Ground.phase }, { on := 4, ground := Ground.phase }, { on := 5, ground := Ground.phase }, { on := 6, ground := Ground.phase }, { on := 7, ground := Ground.phase }, { on := 8, ground := Ground.phase }, { on := 9, ground := Ground.phase }, { on := 10, ground := Ground.phase }, { on := 11, ground := Ground.phase }, { on := 12, ground := Ground.phase }, { on := 13, ground := Ground.phase }, { on := 14, ground := Ground.phase }, { on := 15, ground := Ground.phase }], guard := none } : Oper)) rfl (fun K hK => ?_) AllReadyH.nil
          · have c0 := M3.c0
            have c1 := M3.c1
            have c2 := M3.c2
            have c3 := M3.c3
            have c4 := M3.c4
            have c5 := M3.c5
            have f0 := G3.f0
            have f1 := G3.f1
            have f2 := G3.f2
            have f3 := G3.f3
            have f4 := G3.f4
            have f5 := G3.f5
            go_simp
            have M4 := M3.wrote (up gs) mI mN m.1.1 m.1.2 (up gp)
            refine hK.out _ _ (HPUT.out _ kM _ _ _ _ _ _ neM hH3) (fun hH4 => ?_)
            clear hK K c0 c1 c2 c3 c4 c5 f0 f1 f2 f3 f4 f5
            refine wpAnyH_done (by kernel_rfl) ?_ _
            go_wp2
            go_meet
            case rel => exact ⟨_, rfl, M4, (hH4.2.2.2.2.2.2.2.2).out.2.1, (hH4.2.2.2.2.2.2.2.2).out.2.2.1, (hH4.2.2.2.2.2.2.2.2).out.2.2.2.1⟩
  case rest =>
    obtain ⟨q, rfl, HD⟩ := hcut
    clear hS0 HCL HPUT HC c3 c4
    have a0 := HD.out.1.c0
    have a1 := HD.out.1.c1
    have a2 := HD.out.1.c2
    have a3 := HD.out.1.c3
    have a4 := HD.out.1.c4
    have a5 := HD.out.1.c5
    have c5 := fun w => some_V ⟨gs, mI, mN, m.1.1, m.1.2, gp⟩ (t1 && m.2) w
    rw [HR.out] at c5
    cases t1
    · go_wp2_with (go_at_call 20; refine (c5 _).mono ?_; rintro e wK ⟨rfl, hK⟩; clear a0 a1 a2 a3 a4 a5; have k2 := HD.out.2.1.keep hK; have k3 := HD.out.2.2.1.keep HD.out.2.1.lt hK; have k4 := HD.out.2.2.2.trans (hK.mono (Nat.le_trans (Nat.le_trans (Nat.le_succ _) (Nat.le_succ _)) (Nat.le_of_lt HD.out.2.1.lt))); have b0 := k2.c0; have b1 := k2.c1; have b2 := k2.c2; have b3 := k2.c3; have b4 := k2.c4; have b5 := k2.c5; have f0 := k3.f0; have f1 := k3.f1; have f2 := k3.f2; have f3 := k3.f3; have f4 := k3.f4; have f5 := k3.f5)
      have zw := k2.wrote (up r.1.s) r.1.k r.1.n r.1.lo r.1.hi (up r.1.p)
      have hZ := st6_below k4 (N + 1 + 1) (Nat.le_trans (Nat.le_succ _) (Nat.le_succ _)) (.int .i64 (up r.1.s)) (.bool r.1.k) (.int .i64 r.1.n) (.int .i64 r.1.lo) (.int .i64 r.1.hi) (.int .i64 (up r.1.p))
      clear c5 HD hK k2 k3 k4 b0 b1 b2 b3 b4 b5 f0 f1 f2 f3 f4 f5
      have a0 := zw.c0
      have a1 := zw.c1
      have a2 := zw.c2
      have a3 := zw.c3
      have a4 := zw.c4
      have a5 := zw.c5
      clear zw
      refine bodyPost_ret (by simp [results, Tryz.results10, go_sem, *]; try rfl) rfl ⟨?_, by rw [← HN.out]; exact hZ⟩
      rfl
    · go_wp2_with (go_at_call 20; refine (c5 _).mono ?_; rintro e wK ⟨rfl, hK⟩; clear a0 a1 a2 a3 a4 a5; have k2 := HD.out.2.1.keep hK; have k3 := HD.out.2.2.1.keep HD.out.2.1.lt hK; have k4 := HD.out.2.2.2.trans (hK.mono (Nat.le_trans (Nat.le_trans (Nat.le_succ _) (Nat.le_succ _)) (Nat.le_of_lt HD.out.2.1.lt))); have b0 := k2.c0; have b1 := k2.c1; have b2 := k2.c2; have b3 := k2.c3; have b4 := k2.c4; have b5 := k2.c5; have f0 := k3.f0; have f1 := k3.f1; have f2 := k3.f2; have f3 := k3.f3; have f4 := k3.f4; have f5 := k3.f5)
      have zw := k2.wrote (up r.1.s) r.1.k r.1.n r.1.lo r.1.hi (up r.1.p)
      have hZ := st6_below k4 (N + 1 + 1) (Nat.le_trans (Nat.le_succ _) (Nat.le_succ _)) (.int .i64 (up r.1.s)) (.bool r.1.k) (.int .i64 r.1.n) (.int .i64 r.1.lo) (.int .i64 r.1.hi) (.int .i64 (up r.1.p))
      clear c5 HD hK k2 k3 k4 b0 b1 b2 b3 b4 b5 f0 f1 f2 f3 f4 f5
      have a0 := zw.c0
      have a1 := zw.c1
      have a2 := zw.c2
      have a3 := zw.c3
      have a4 := zw.c4
      have a5 := zw.c5
      clear zw
      refine bodyPost_ret (by simp [results, Tryz.results10, go_sem, *]; try rfl) rfl ⟨?_, by rw [← HN.out]; exact hZ⟩
      rfl
end Go.Proofs.YthiacdbjlkpfgaaGreatDoor
namespace Go.Proofs.YthiacdbjlkpfgaaGreatDoor
open Go.RowKit
theorem twop_zero1 (op : Int) (y : BitVec 3) : twoQ op 0 y = 0 := by
  unfold twoQ
  split
  · generalize (op - 4).toNat = o
    simp [pAll, pRow, pPair, bt]
  · rfl
theorem twop_zero2 (op : Int) (x : BitVec 3) : twoQ op x 0 = 0 := by
  unfold twoQ
  split
  · generalize (op - 4).toNat = o
    simp [pAll, pRow, pPair, bt]
  · rfl
set_option maxRecDepth 100000 in
theorem mall4 : ∀ x y, mAll 4 x y 16 = twoQ 4 x y := by decide +kernel
set_option maxRecDepth 100000 in
theorem mall5 : ∀ x y, mAll 5 x y 16 = twoQ 5 x y := by decide +kernel
set_option maxRecDepth 100000 in
theorem mall6 : ∀ x y, mAll 6 x y 16 = twoQ 6 x y := by decide +kernel
set_option maxRecDepth 100000 in
theorem mall7 : ∀ x y, mAll 7 x y 16 = twoQ 7 x y := by decide +kernel
set_option maxRecDepth 100000 in
theorem mall8 : ∀ x y, mAll 8 x y 16 = twoQ 8 x y := by decide +kernel
set_option maxRecDepth 100000 in
theorem mall9 : ∀ x y, mAll 9 x y 16 = twoQ 9 x y := by decide +kernel
set_option maxRecDepth 100000 in
theorem mall10 : ∀ x y, mAll 10 x y 16 = twoQ 10 x y := by decide +kernel
set_option maxRecDepth 100000 in
theorem mall11 : ∀ x y, mAll 11 x y 16 = twoQ 11 x y := by decide +kernel
set_option maxRecDepth 100000 in
theorem mall12 : ∀ x y, mAll 12 x y 16 = twoQ 12 x y := by decide +kernel
theorem mall_no (op : Int) (x y : BitVec 3) (h : ¬ (4 ≤ op ∧ op ≤ 12)) : mAll op x y 16 = 0 := by
  have ha : ∀ a b, arith op a b = (0, false) := fun a b => by
    unfold arith
    rw [if_neg (by omega), if_neg (by omega), if_neg (by omega), if_neg (by omega), if_neg (by omega), if_neg (by omega), if_neg (by omega), if_neg (by omega), if_neg (by omega)]
  have hc : ∀ i k, pCell op x y i k = 0 := fun i k => by simp [pCell, ha]
  have hr : ∀ i n, mRow op x y i n = 0 := by
    intro i n
    induction n with
    | zero => rfl
    | succ n ih => simp [mRow, ih, hc]
  have : ∀ n, mAll op x y n = 0 := by
    intro n
    induction n with
    | zero => rfl
    | succ n ih => simp [mAll, ih, hr]
  exact this 16
theorem mall_all (op : Int) (x y : BitVec 3) : mAll op x y 16 = twoQ op x y := by
  by_cases h : 4 ≤ op ∧ op ≤ 12
  · rcases op_cases op h with rfl | rfl | rfl | rfl | rfl | rfl | rfl | rfl | rfl
    · exact mall4 x y
    · exact mall5 x y
    · exact mall6 x y
    · exact mall7 x y
    · exact mall8 x y
    · exact mall9 x y
    · exact mall10 x y
    · exact mall11 x y
    · exact mall12 x y
  · rw [mall_no op x y h, twoQ, if_neg h]
end Go.Proofs.YthiacdbjlkpfgaaGreatDoor
