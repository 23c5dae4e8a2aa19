import Derived.Test.YtfndahdnbkmkkaaFg
import Derived.Test.YtfndahdnbkmkkaaFf2
namespace Go.Proofs.Ytfndahdnbkmkkaa
open Go.RowKit
set_option maxRecDepth 100000 in
set_option maxHeartbeats 16000000 in
theorem widen_V (x y : V) (w : World) (hx : x.p &&& 3 = x.p) (hy : y.p &&& 3 = y.p) : Calls Try.prog 24 #[.agg #[.int .i64 (up x.s), .bool x.k, .int .i64 x.n, .int .i64 x.lo, .int .i64 x.hi, .int .i64 (up x.p)], .agg #[.int .i64 (up y.s), .bool y.k, .int .i64 y.n, .int .i64 y.lo, .int .i64 y.hi, .int .i64 (up y.p)]] w fun e w' => e = .returned (.agg #[.int .i64 (up (widenV x y).s), .bool (widenV x y).k, .int .i64 (widenV x y).n, .int .i64 (widenV x y).lo, .int .i64 (widenV x y).hi, .int .i64 (up (widenV x y).p)]) ∧ Below w.heap.size w w' := by
  have c1 := fun w => join_V x y w hx hy
  have HR : Hid (widenV x y = ⟨(joinV x y).s, (joinV x y).k, (joinV x y).n, if (joinV x y).lo < x.lo then -9223372036854775808 else x.lo, if x.hi < (joinV x y).hi then 9223372036854775807 else x.hi, (joinV x y).p⟩) := rfl
  generalize widenV x y = r at *
  generalize joinV x y = j at *
  clear hx hy
  have c2 := fun w => nwiden_any x.lo x.hi j.lo j.hi w
  have HQ : Hid (r.s = j.s ∧ r.k = j.k ∧ r.n = j.n ∧ r.lo = (if j.lo < x.lo then -9223372036854775808 else x.lo) ∧ r.hi = (if x.hi < j.hi then 9223372036854775807 else x.hi) ∧ r.p = j.p) := by rw [HR.out]; exact ⟨rfl, rfl, rfl, rfl, rfl, rfl⟩
  generalize (if j.lo < x.lo then -9223372036854775808 else x.lo : Int) = wl at *
  generalize (if x.hi < j.hi then 9223372036854775807 else x.hi : Int) = wh at *
  have x0 : Br (((w.alloc (.cells #[.int .i64 (up x.s), .bool x.k, .int .i64 x.n, .int .i64 x.lo, .int .i64 x.hi, .int .i64 (up x.p)] 32)).alloc (.cells #[.int .i64 (up y.s), .bool y.k, .int .i64 y.n, .int .i64 y.lo, .int .i64 y.hi, .int .i64 (up y.p)] 32)).alloc (.cells #[.int .i64 0, .bool false, .int .i64 0, .int .i64 0, .int .i64 0, .int .i64 0] 32)) (w.heap.size) (up x.s) x.k x.n x.lo x.hi (up x.p) := (((Br.new w (up x.s) x.k x.n x.lo x.hi (up x.p) 32)).keep ((Below.refl _ _).alloc (Nat.le_refl _) _)).keep ((Below.refl _ _).alloc (Nat.le_refl _) _)
  have x1 : Br (((w.alloc (.cells #[.int .i64 (up x.s), .bool x.k, .int .i64 x.n, .int .i64 x.lo, .int .i64 x.hi, .int .i64 (up x.p)] 32)).alloc (.cells #[.int .i64 (up y.s), .bool y.k, .int .i64 y.n, .int .i64 y.lo, .int .i64 y.hi, .int .i64 (up y.p)] 32)).alloc (.cells #[.int .i64 0, .bool false, .int .i64 0, .int .i64 0, .int .i64 0, .int .i64 0] 32)) (w.heap.size + 1) (up y.s) y.k y.n y.lo y.hi (up y.p) := ((by simpa using Br.new (w.alloc (.cells #[.int .i64 (up x.s), .bool x.k, .int .i64 x.n, .int .i64 x.lo, .int .i64 x.hi, .int .i64 (up x.p)] 32)) (up y.s) y.k y.n y.lo y.hi (up y.p) 32 : Br ((w.alloc (.cells #[.int .i64 (up x.s), .bool x.k, .int .i64 x.n, .int .i64 x.lo, .int .i64 x.hi, .int .i64 (up x.p)] 32)).alloc (.cells #[.int .i64 (up y.s), .bool y.k, .int .i64 y.n, .int .i64 y.lo, .int .i64 y.hi, .int .i64 (up y.p)] 32)) (w.heap.size + 1) (up y.s) y.k y.n y.lo y.hi (up y.p))).keep ((Below.refl _ _).alloc (Nat.le_refl _) _)
  have x2 : Br (((w.alloc (.cells #[.int .i64 (up x.s), .bool x.k, .int .i64 x.n, .int .i64 x.lo, .int .i64 x.hi, .int .i64 (up x.p)] 32)).alloc (.cells #[.int .i64 (up y.s), .bool y.k, .int .i64 y.n, .int .i64 y.lo, .int .i64 y.hi, .int .i64 (up y.p)] 32)).alloc (.cells #[.int .i64 0, .bool false, .int .i64 0, .int .i64 0, .int .i64 0, .int .i64 0] 32)) (w.heap.size + 1 + 1) 0 false 0 0 0 0 := (by simpa using Br.new ((w.alloc (.cells #[.int .i64 (up x.s), .bool x.k, .int .i64 x.n, .int .i64 x.lo, .int .i64 x.hi, .int .i64 (up x.p)] 32)).alloc (.cells #[.int .i64 (up y.s), .bool y.k, .int .i64 y.n, .int .i64 y.lo, .int .i64 y.hi, .int .i64 (up y.p)] 32)) 0 false 0 0 0 0 32 : Br (((w.alloc (.cells #[.int .i64 (up x.s), .bool x.k, .int .i64 x.n, .int .i64 x.lo, .int .i64 x.hi, .int .i64 (up x.p)] 32)).alloc (.cells #[.int .i64 (up y.s), .bool y.k, .int .i64 y.n, .int .i64 y.lo, .int .i64 y.hi, .int .i64 (up y.p)] 32)).alloc (.cells #[.int .i64 0, .bool false, .int .i64 0, .int .i64 0, .int .i64 0, .int .i64 0] 32)) (w.heap.size + 1 + 1) 0 false 0 0 0 0)
  have xf : Fz (((w.alloc (.cells #[.int .i64 (up x.s), .bool x.k, .int .i64 x.n, .int .i64 x.lo, .int .i64 x.hi, .int .i64 (up x.p)] 32)).alloc (.cells #[.int .i64 (up y.s), .bool y.k, .int .i64 y.n, .int .i64 y.lo, .int .i64 y.hi, .int .i64 (up y.p)] 32)).alloc (.cells #[.int .i64 0, .bool false, .int .i64 0, .int .i64 0, .int .i64 0, .int .i64 0] 32)) (w.heap.size + 1 + 1) := by simpa using Fz.new ((w.alloc (.cells #[.int .i64 (up x.s), .bool x.k, .int .i64 x.n, .int .i64 x.lo, .int .i64 x.hi, .int .i64 (up x.p)] 32)).alloc (.cells #[.int .i64 (up y.s), .bool y.k, .int .i64 y.n, .int .i64 y.lo, .int .i64 y.hi, .int .i64 (up y.p)] 32)) 0 false 0 0 0 0 32
  have xb : Below w.heap.size w (((w.alloc (.cells #[.int .i64 (up x.s), .bool x.k, .int .i64 x.n, .int .i64 x.lo, .int .i64 x.hi, .int .i64 (up x.p)] 32)).alloc (.cells #[.int .i64 (up y.s), .bool y.k, .int .i64 y.n, .int .i64 y.lo, .int .i64 y.hi, .int .i64 (up y.p)] 32)).alloc (.cells #[.int .i64 0, .bool false, .int .i64 0, .int .i64 0, .int .i64 0, .int .i64 0] 32)) := (by repeat (first | exact Below.refl _ _ | (refine Below.drew ?_) | (refine below_drewN ?_ _) | (refine Below.setCell ?_ (by first | omega | (simp; done) | (simp; omega)) _) | (refine Below.alloc ?_ (by first | omega | (simp; done) | (simp; omega)) _) | (refine Below.trans ?_ (Below.mono (by assumption) (by first | omega | (simp; done) | (simp; omega))))))
  go_enter Try.func24, Try.ntmps24
  go_upto_region 1 with fail
  go_name_world W hW
  rw [hW] at x0 x1 x2 xf xb
  clear hW
  obtain ⟨N, hN⟩ : ∃ N, N = w.heap.size := ⟨_, rfl⟩
  rw [← hN] at x0 x1 x2 xf xb ⊢
  have HN : Hid (N = w.heap.size) := hN
  clear hN
  have HA := hide (And.intro x0 (And.intro x1 (And.intro x2 (And.intro xf xb))))
  clear x0 x1 x2 xf xb
  have a0 := HA.out.1.c0
  have a1 := HA.out.1.c1
  have a2 := HA.out.1.c2
  have a3 := HA.out.1.c3
  have a4 := HA.out.1.c4
  have a5 := HA.out.1.c5
  have b0 := HA.out.2.1.c0
  have b1 := HA.out.2.1.c1
  have b2 := HA.out.2.1.c2
  have b3 := HA.out.2.1.c3
  have b4 := HA.out.2.1.c4
  have b5 := HA.out.2.1.c5
  go_upto_region 2 with (go_at_call 20; refine (c1 _).mono ?_; rintro e wK ⟨rfl, hK⟩)
  go_name_world W2 hW2
  have HB : Hid (Br W2 N (up x.s) x.k x.n x.lo x.hi (up x.p) ∧ Br W2 (N + 1 + 1) 0 false 0 0 0 0 ∧ Fz W2 (N + 1 + 1) ∧ Br W2 wK.heap.size (up j.s) j.k j.n j.lo j.hi (up j.p) ∧ Fz W2 wK.heap.size ∧ Below N w W2) := by
    rw [← hW2]
    have k0 := HA.out.1.keep hK
    have k2 := HA.out.2.2.1.keep hK
    have k3 := HA.out.2.2.2.1.keep HA.out.2.2.1.lt hK
    have k4 := HA.out.2.2.2.2.trans (hK.mono (Nat.le_of_lt HA.out.1.lt))
    exact ⟨k0.keep ((Below.refl _ _).alloc (Nat.le_refl _) _), k2.keep ((Below.refl _ _).alloc (Nat.le_refl _) _), k3.keep k2.lt ((Below.refl _ _).alloc (Nat.le_refl _) _), Br.new _ _ _ _ _ _ _ _, Fz.new _ _ _ _ _ _ _ _, k4.alloc (Nat.le_of_lt k0.lt) _⟩
  have o1 : (N + 1 + 1) < wK.heap.size := (HA.out.2.2.1.keep hK).lt
  clear hW2 hK HA c1 a0 a1 a2 a3 a4 a5 b0 b1 b2 b3 b4 b5
  generalize wK.heap.size = T at *
  have a0 := HB.out.1.c0
  have a1 := HB.out.1.c1
  have a2 := HB.out.1.c2
  have a3 := HB.out.1.c3
  have a4 := HB.out.1.c4
  have a5 := HB.out.1.c5
  have b0 := HB.out.2.2.2.1.c0
  have b1 := HB.out.2.2.2.1.c1
  have b2 := HB.out.2.2.2.1.c2
  have b3 := HB.out.2.2.2.1.c3
  have b4 := HB.out.2.2.2.1.c4
  have b5 := HB.out.2.2.2.1.c5
  go_upto_region 3 with (go_at_call 73; refine (c2 _).mono ?_; rintro e wK ⟨rfl, hK⟩; clear a0 a1 a2 a3 a4 a5 b0 b1 b2 b3 b4 b5; have K := And.intro (HB.out.2.1.keep hK) (And.intro (HB.out.2.2.1.keep HB.out.2.1.lt hK) (And.intro (HB.out.2.2.2.1.keep hK) (And.intro (HB.out.2.2.2.2.1.keep HB.out.2.2.2.1.lt hK) (HB.out.2.2.2.2.2.trans (hK.mono (Nat.le_of_lt HB.out.1.lt)))))); have a0 := K.2.2.1.c0; have a1 := K.2.2.1.c1; have a2 := K.2.2.1.c2; have a3 := K.2.2.1.c3; have a4 := K.2.2.1.c4; have a5 := K.2.2.1.c5; have f0 := K.2.2.2.1.f0; have f1 := K.2.2.2.1.f1; have f2 := K.2.2.2.1.f2; have f3 := K.2.2.2.1.f3; have f4 := K.2.2.2.1.f4; have f5 := K.2.2.2.1.f5)
  go_name_world W3 hW3
  have HC : Hid (Br W3 (N + 1 + 1) 0 false 0 0 0 0 ∧ Fz W3 (N + 1 + 1) ∧ Br W3 T (up j.s) j.k j.n wl wh (up j.p) ∧ Below N w W3) := by
    rw [← hW3]
    exact ⟨K.1.two (by omega) _ _ _ _, K.2.1.two _ _ _ _, K.2.2.1.span _ _, two_below K.2.2.2.2 T _ _ (by omega) _ _⟩
  clear hW3 hK K HB c2 a0 a1 a2 a3 a4 a5 f0 f1 f2 f3 f4 f5
  have a0 := HC.out.1.c0
  have a1 := HC.out.1.c1
  have a2 := HC.out.1.c2
  have a3 := HC.out.1.c3
  have a4 := HC.out.1.c4
  have a5 := HC.out.1.c5
  have f0 := HC.out.2.1.f0
  have f1 := HC.out.2.1.f1
  have f2 := HC.out.2.1.f2
  have f3 := HC.out.2.1.f3
  have f4 := HC.out.2.1.f4
  have f5 := HC.out.2.1.f5
  have b0 := HC.out.2.2.1.c0
  have b1 := HC.out.2.2.1.c1
  have b2 := HC.out.2.2.1.c2
  have b3 := HC.out.2.2.1.c3
  have b4 := HC.out.2.2.1.c4
  have b5 := HC.out.2.2.1.c5
  have hB := HC.out.2.2.2
  go_wp2_with fail
  have zw := HC.out.1.wrote (up j.s) j.k j.n wl wh (up j.p)
  have hZ := st6_below HC.out.2.2.2 (N + 1 + 1) (Nat.le_trans (Nat.le_succ _) (Nat.le_succ _)) (.int .i64 (up j.s)) (.bool j.k) (.int .i64 j.n) (.int .i64 wl) (.int .i64 wh) (.int .i64 (up j.p))
  clear HC hB a0 a1 a2 a3 a4 a5 b0 b1 b2 b3 b4 b5 f0 f1 f2 f3 f4 f5
  have a0 := zw.c0
  have a1 := zw.c1
  have a2 := zw.c2
  have a3 := zw.c3
  have a4 := zw.c4
  have a5 := zw.c5
  clear zw
  refine bodyPost_ret (by simp [results, Try.results24, go_sem, *]; try rfl) rfl ⟨?_, by rw [← HN.out]; exact hZ⟩
  rw [HQ.out.1, HQ.out.2.1, HQ.out.2.2.1, HQ.out.2.2.2.1, HQ.out.2.2.2.2.1, HQ.out.2.2.2.2.2]
end Go.Proofs.Ytfndahdnbkmkkaa
