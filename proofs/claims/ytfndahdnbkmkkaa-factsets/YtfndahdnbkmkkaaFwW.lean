import Derived.Test.YtfndahdnbkmkkaaFo
import Derived.Test.YtfndahdnbkmkkaaFh
import Derived.Test.YtfndahdnbkmkkaaFi
import Derived.Test.YtfndahdnbkmkkaaFj
namespace Go.Proofs.Ytfndahdnbkmkkaa
open Go.RowKit
/-- a Value as it is handed in -/
structure R where
  s : Int
  k : Bool
  n : Int
  lo : Int
  hi : Int
  p : Int
/-- Values in memory: six cells each -/
def RowR (w : World) (a : Option Addr) (ts : List R) : Prop :=
  ∀ m t, ts[m]? = some t → i64 t.n ∧ i64 t.lo ∧ i64 t.hi ∧ ∃ b o, a = some ⟨b, o, none⟩ ∧ w.cell? ⟨b, o + m * 6, none⟩ = some (.int .i64 t.s) ∧ w.cell? ⟨b, o + m * 6 + 1, none⟩ = some (.bool t.k) ∧ w.cell? ⟨b, o + m * 6 + 2, none⟩ = some (.int .i64 t.n) ∧ w.cell? ⟨b, o + m * 6 + 3, none⟩ = some (.int .i64 t.lo) ∧ w.cell? ⟨b, o + m * 6 + 4, none⟩ = some (.int .i64 t.hi) ∧ w.cell? ⟨b, o + m * 6 + 5, none⟩ = some (.int .i64 t.p)
set_option maxRecDepth 100000 in
set_option maxHeartbeats 16000000 in
theorem fwidens_walk (s : Int) (k : Bool) (n lo hi p : Int) (a0 : Option Addr) (cap : Nat) (ts : List R) (w : World) (hn : i64 n) (hl : i64 lo) (hh : i64 hi) (hrow : RowR w a0 ts) : Calls Try.prog 5 #[.agg #[.int .i64 s, .bool k, .int .i64 n, .int .i64 lo, .int .i64 hi, .int .i64 p], .slice a0 ts.length cap] w fun e w' => e = .returned (.bool true) ∧ Below w.heap.size w w' := by
  have HR : Hid (RowR w a0 ts) := hrow
  have s0 := hide (fix_ok s k n lo hi p hn hl hh)
  have cF := fun w => fix_V s k n lo hi p w
  clear hrow hn hl hh
  generalize fixV s k n lo hi p = X0 at *
  go_enter Try.func5, Try.ntmps5
  go_upto_region 2 with (first | (go_at_call 9; refine (cF _).mono ?_; rintro e wA ⟨rfl, hA⟩) | (go_at_call 7; refine (to_V _ _ _ _ _ _ _).mono ?_; rintro e wB ⟨rfl, hB⟩))
  go_name_world W hW
  have H1 : Hid (Br W wB.heap.size (up X0.s) X0.k X0.n X0.lo X0.hi (up X0.p) ∧ Fz W wB.heap.size ∧ Below w.heap.size w W ∧ w.heap.size ≤ wB.heap.size) := by
    rw [← hW]
    have u0 : Below w.heap.size w wA := ((Below.refl w.heap.size w).alloc (Nat.le_refl _) _).trans (hA.mono (by simp))
    have u := u0.trans (hB.mono u0.size)
    exact ⟨Br.new _ _ _ _ _ _ _ _, Fz.new _ _ _ _ _ _ _ _, u.alloc u.size _, u.size⟩
  clear hW hA hB cF
  generalize wB.heap.size = T at *
  go_wp2_with fail
  go_loopw [6, 7] (fun ch ix wr => ∃ (k c : Nat) (X : V), ix = .int .i64 k ∧ ch = .int .i64 c ∧ k ≤ 60 ∧ Hid (X.ok ∧ c + pot X ≤ 6 ∧ Br wr T (up X.s) X.k X.n X.lo X.hi (up X.p) ∧ Fz wr T ∧ Below w.heap.size w wr ∧ w.heap.size ≤ T)) (fun _ i _ => 60 - (intOf i).toNat)
  case atStart => exact ⟨0, 0, X0, rfl, rfl, by omega, s0.out, by have := pot_le X0 s0.out; omega, H1.out⟩
  case round =>
    obtain ⟨k, c, X, rfl, rfl, hk, hS⟩ := hrel
    clear H1 s0
    have c2 : (c : Int) ≤ 6 := by have := hS.out.2.1; omega
    have c0 : (0 : Int) ≤ c := by omega
    have k0 : (0 : Int) ≤ k := by omega
    have k1 : (k : Int) ≤ 60 := by omega
    by_cases hlt : k < ts.length
    · have k2 : (k : Int) < ts.length := by omega
      by_cases h60 : k < 60
      · have k3 : (k : Int) < 60 := by omega
        obtain ⟨t, ht⟩ : ∃ t, ts[k]? = some t := ⟨ts[k]'hlt, by simp [hlt]⟩
        obtain ⟨it1, it2, it3, b, o, rfl, e0, e1, e2, e3, e4, e5⟩ := HR.out k t ht
        have bl := World.block_lt_of_cell? _ _ e0
        have hbW := hS.out.2.2.2.2.1
        have d0 := (hbW.cell (p := ⟨b, o + k * 6, none⟩) bl).trans e0
        have d1 := (hbW.cell (p := ⟨b, o + k * 6 + 1, none⟩) bl).trans e1
        have d2 := (hbW.cell (p := ⟨b, o + k * 6 + 2, none⟩) bl).trans e2
        have d3 := (hbW.cell (p := ⟨b, o + k * 6 + 3, none⟩) bl).trans e3
        have d4 := (hbW.cell (p := ⟨b, o + k * 6 + 4, none⟩) bl).trans e4
        have d5 := (hbW.cell (p := ⟨b, o + k * 6 + 5, none⟩) bl).trans e5
        have sC := hide (fix_ok t.s t.k t.n t.lo t.hi t.p it1 it2 it3)
        have cC := fun w => fix_V t.s t.k t.n t.lo t.hi t.p w
        clear it1 it2 it3 e0 e1 e2 e3 e4 e5 bl ht hbW
        generalize fixV t.s t.k t.n t.lo t.hi t.p = C at *
        go_upto_region 7 with (first | (go_at_call 9; refine (cC _).mono ?_; rintro e wA ⟨rfl, hA⟩) | (go_at_call 7; refine (to_V _ _ _ _ _ _ _).mono ?_; rintro e wB ⟨rfl, hB⟩))
        go_name_world W6 hW6
        have H6 : Hid (Br W6 T (up X.s) X.k X.n X.lo X.hi (up X.p) ∧ Fz W6 T ∧ Br W6 wB.heap.size (up C.s) C.k C.n C.lo C.hi (up C.p) ∧ Below w.heap.size w W6 ∧ T ≠ wB.heap.size) := by
          rw [← hW6]
          have u0 := hS.out.2.2.2.2.1.trans (hA.mono hS.out.2.2.2.2.1.size)
          have u := u0.trans (hB.mono u0.size)
          have v1 := hS.out.2.2.1.keep hA
          have v2 := v1.keep hB
          have g2 := (hS.out.2.2.2.1.keep hS.out.2.2.1.lt hA).keep v1.lt hB
          exact ⟨v2.keep ((Below.refl _ _).alloc (Nat.le_refl _) _), g2.keep v2.lt ((Below.refl _ _).alloc (Nat.le_refl _) _), Br.new _ _ _ _ _ _ _ _, u.alloc u.size _, Nat.ne_of_lt v2.lt⟩
        clear hW6 hA hB cC d0 d1 d2 d3 d4 d5
        generalize wB.heap.size = T8 at *
        have a0 := H6.out.1.c0
        have a1 := H6.out.1.c1
        have a2 := H6.out.1.c2
        have a3 := H6.out.1.c3
        have a4 := H6.out.1.c4
        have a5 := H6.out.1.c5
        have b0 := H6.out.2.2.1.c0
        have b1 := H6.out.2.2.1.c1
        have b2 := H6.out.2.2.1.c2
        have b3 := H6.out.2.2.1.c3
        have b4 := H6.out.2.2.1.c4
        have b5 := H6.out.2.2.1.c5
        have cW := fun w => widen_V X C w hS.out.1.p3 sC.out.p3
        have HI := hide (widen_in X C hS.out.1 sC.out)
        have HO := hide (widen_ok X C hS.out.1 sC.out)
        have HP := hide (widen_pot X C hS.out.1 sC.out)
        generalize widenV X C = Y at *
        go_upto_region 8 with (go_at_call 24; refine (cW _).mono ?_; rintro e wK ⟨rfl, hK⟩)
        go_name_world W7 hW7
        have H7 : Hid (Br W7 T (up X.s) X.k X.n X.lo X.hi (up X.p) ∧ Fz W7 T ∧ Br W7 T8 (up C.s) C.k C.n C.lo C.hi (up C.p) ∧ Br W7 wK.heap.size (up Y.s) Y.k Y.n Y.lo Y.hi (up Y.p) ∧ Below w.heap.size w W7 ∧ T ≠ wK.heap.size) := by
          rw [← hW7]
          have u := H6.out.2.2.2.1.trans (hK.mono H6.out.2.2.2.1.size)
          have v2 := H6.out.1.keep hK
          have g2 := H6.out.2.1.keep H6.out.1.lt hK
          exact ⟨v2.keep ((Below.refl _ _).alloc (Nat.le_refl _) _), g2.keep v2.lt ((Below.refl _ _).alloc (Nat.le_refl _) _), (H6.out.2.2.1.keep hK).keep ((Below.refl _ _).alloc (Nat.le_refl _) _), Br.new _ _ _ _ _ _ _ _, u.alloc u.size _, Nat.ne_of_lt v2.lt⟩
        clear hW7 hK H6 cW a0 a1 a2 a3 a4 a5 b0 b1 b2 b3 b4 b5
        generalize wK.heap.size = T9 at *
        have w1 := HI.out.1
        have w2 := HI.out.2
        have cI1 := fun w => within_V X Y w hS.out.1.p3 HO.out.p3
        have cI2 := fun w => within_V C Y w sC.out.p3 HO.out.p3
        rw [w1] at cI1
        rw [w2] at cI2
        clear w1 w2 HI
        have a0 := H7.out.1.c0
        have a1 := H7.out.1.c1
        have a2 := H7.out.1.c2
        have a3 := H7.out.1.c3
        have a4 := H7.out.1.c4
        have a5 := H7.out.1.c5
        have b0 := H7.out.2.2.1.c0
        have b1 := H7.out.2.2.1.c1
        have b2 := H7.out.2.2.1.c2
        have b3 := H7.out.2.2.1.c3
        have b4 := H7.out.2.2.1.c4
        have b5 := H7.out.2.2.1.c5
        have d0 := H7.out.2.2.2.1.c0
        have d1 := H7.out.2.2.2.1.c1
        have d2 := H7.out.2.2.2.1.c2
        have d3 := H7.out.2.2.2.1.c3
        have d4 := H7.out.2.2.2.1.c4
        have d5 := H7.out.2.2.2.1.c5
        go_upto_region 10 with (first | (go_at_call 22; refine (cI1 _).mono ?_; rintro e wI ⟨rfl, hI⟩; have KC := H7.out.2.2.1.keep hI; have KY := H7.out.2.2.2.1.keep hI; clear a0 a1 a2 a3 a4 a5 b0 b1 b2 b3 b4 b5 d0 d1 d2 d3 d4 d5 cI1; have b0 := KC.c0; have b1 := KC.c1; have b2 := KC.c2; have b3 := KC.c3; have b4 := KC.c4; have b5 := KC.c5; have d0 := KY.c0; have d1 := KY.c1; have d2 := KY.c2; have d3 := KY.c3; have d4 := KY.c4; have d5 := KY.c5) | (go_at_call 22; refine (cI2 _).mono ?_; rintro e wJ ⟨rfl, hJ⟩))
        go_name_world W8 hW8
        have H8 : Hid (Br W8 T (up X.s) X.k X.n X.lo X.hi (up X.p) ∧ Fz W8 T ∧ Br W8 T9 (up Y.s) Y.k Y.n Y.lo Y.hi (up Y.p) ∧ Below w.heap.size w W8 ∧ T ≠ T9) := by
          rw [← hW8]
          have q1 := H7.out.1.keep hI
          have q2 := H7.out.2.1.keep H7.out.1.lt hI
          have u := H7.out.2.2.2.2.1.trans (hI.mono H7.out.2.2.2.2.1.size)
          exact ⟨q1.keep hJ, q2.keep q1.lt hJ, KY.keep hJ, u.trans (hJ.mono u.size), H7.out.2.2.2.2.2⟩
        clear hW8 hI hJ KC KY H7 cI2 b0 b1 b2 b3 b4 b5 d0 d1 d2 d3 d4 d5
        by_cases hY : Y = X
        · subst hY
          have a0 := H8.out.1.c0
          have a1 := H8.out.1.c1
          have a2 := H8.out.1.c2
          have a3 := H8.out.1.c3
          have a4 := H8.out.1.c4
          have a5 := H8.out.1.c5
          have f0 := H8.out.2.1.f0
          have f1 := H8.out.2.1.f1
          have f2 := H8.out.2.1.f2
          have f3 := H8.out.2.1.f3
          have f4 := H8.out.2.1.f4
          have f5 := H8.out.2.1.f5
          have d0 := H8.out.2.2.1.c0
          have d1 := H8.out.2.2.1.c1
          have d2 := H8.out.2.2.1.c2
          have d3 := H8.out.2.2.1.c3
          have d4 := H8.out.2.2.1.c4
          have d5 := H8.out.2.2.1.c5
          have zw := hide (H8.out.1.wrote (up Y.s) Y.k Y.n Y.lo Y.hi (up Y.p))
          have zf := hide (H8.out.2.1.put (q := T) (.int .i64 (up Y.s)) (.bool Y.k) (.int .i64 Y.n) (.int .i64 Y.lo) (.int .i64 Y.hi) (.int .i64 (up Y.p)))
          have hZ := hide (st6_below H8.out.2.2.2.1 T hS.out.2.2.2.2.2 (.int .i64 (up Y.s)) (.bool Y.k) (.int .i64 Y.n) (.int .i64 Y.lo) (.int .i64 Y.hi) (.int .i64 (up Y.p)))
          go_wp2_with fail
          go_round
          case rel => exact ⟨k + 1, c, Y, by push_cast; rfl, rfl, by omega, HO.out, hS.out.2.1, zw.out, zf.out, hZ.out, hS.out.2.2.2.2.2⟩
          case measure => simp [intOf]; omega
        · have HG : Hid (c + 1 + pot Y ≤ 6) := by unfold Hid; have := HP.out hY; have := hS.out.2.1; omega
          have a0 := H8.out.1.c0
          have a1 := H8.out.1.c1
          have a2 := H8.out.1.c2
          have a3 := H8.out.1.c3
          have a4 := H8.out.1.c4
          have a5 := H8.out.1.c5
          have f0 := H8.out.2.1.f0
          have f1 := H8.out.2.1.f1
          have f2 := H8.out.2.1.f2
          have f3 := H8.out.2.1.f3
          have f4 := H8.out.2.1.f4
          have f5 := H8.out.2.1.f5
          have d0 := H8.out.2.2.1.c0
          have d1 := H8.out.2.2.1.c1
          have d2 := H8.out.2.2.1.c2
          have d3 := H8.out.2.2.1.c3
          have d4 := H8.out.2.2.1.c4
          have d5 := H8.out.2.2.1.c5
          have hE : Hid (¬ (up Y.s = up X.s ∧ Y.k = X.k ∧ Y.n = X.n ∧ Y.lo = X.lo ∧ Y.hi = X.hi ∧ up Y.p = up X.p)) := fun h => hY (V.ext' (up_inj h.1) h.2.1 h.2.2.1 h.2.2.2.1 h.2.2.2.2.1 (up_inj h.2.2.2.2.2))
          clear hY
          go_wp2_with fail
          all_goals first | (exfalso; exact hE.out ⟨by assumption, by assumption, by assumption, by assumption, by assumption, by assumption⟩) | (have hz : Y = (⟨X.s, X.k, X.n, X.lo, X.hi, Y.p⟩ : V) := V.ext' (up_inj (by assumption)) (by assumption) (by assumption) (by assumption) (by assumption) rfl; have z1 := hide (H8.out.1.wrote (up X.s) X.k X.n X.lo X.hi (up Y.p)); have z2 := hide (H8.out.2.1.put (q := T) (.int .i64 (up X.s)) (.bool X.k) (.int .i64 X.n) (.int .i64 X.lo) (.int .i64 X.hi) (.int .i64 (up Y.p))); have z3 := hide (st6_below H8.out.2.2.2.1 T hS.out.2.2.2.2.2 (.int .i64 (up X.s)) (.bool X.k) (.int .i64 X.n) (.int .i64 X.lo) (.int .i64 X.hi) (.int .i64 (up Y.p))); have z4 := hide (hz ▸ HO.out); have z5 := hide (hz ▸ HG.out); go_round; (case rel => exact ⟨k + 1, c + 1, (⟨X.s, X.k, X.n, X.lo, X.hi, Y.p⟩ : V), by push_cast; rfl, by push_cast; rfl, by omega, z4.out, z5.out, z1.out, z2.out, z3.out, hS.out.2.2.2.2.2⟩); (case measure => simp [intOf]; omega)) | (have hz : Y = (⟨X.s, X.k, X.n, X.lo, Y.hi, Y.p⟩ : V) := V.ext' (up_inj (by assumption)) (by assumption) (by assumption) (by assumption) rfl rfl; have z1 := hide (H8.out.1.wrote (up X.s) X.k X.n X.lo Y.hi (up Y.p)); have z2 := hide (H8.out.2.1.put (q := T) (.int .i64 (up X.s)) (.bool X.k) (.int .i64 X.n) (.int .i64 X.lo) (.int .i64 Y.hi) (.int .i64 (up Y.p))); have z3 := hide (st6_below H8.out.2.2.2.1 T hS.out.2.2.2.2.2 (.int .i64 (up X.s)) (.bool X.k) (.int .i64 X.n) (.int .i64 X.lo) (.int .i64 Y.hi) (.int .i64 (up Y.p))); have z4 := hide (hz ▸ HO.out); have z5 := hide (hz ▸ HG.out); go_round; (case rel => exact ⟨k + 1, c + 1, (⟨X.s, X.k, X.n, X.lo, Y.hi, Y.p⟩ : V), by push_cast; rfl, by push_cast; rfl, by omega, z4.out, z5.out, z1.out, z2.out, z3.out, hS.out.2.2.2.2.2⟩); (case measure => simp [intOf]; omega)) | (have hz : Y = (⟨X.s, X.k, X.n, Y.lo, Y.hi, Y.p⟩ : V) := V.ext' (up_inj (by assumption)) (by assumption) (by assumption) rfl rfl rfl; have z1 := hide (H8.out.1.wrote (up X.s) X.k X.n Y.lo Y.hi (up Y.p)); have z2 := hide (H8.out.2.1.put (q := T) (.int .i64 (up X.s)) (.bool X.k) (.int .i64 X.n) (.int .i64 Y.lo) (.int .i64 Y.hi) (.int .i64 (up Y.p))); have z3 := hide (st6_below H8.out.2.2.2.1 T hS.out.2.2.2.2.2 (.int .i64 (up X.s)) (.bool X.k) (.int .i64 X.n) (.int .i64 Y.lo) (.int .i64 Y.hi) (.int .i64 (up Y.p))); have z4 := hide (hz ▸ HO.out); have z5 := hide (hz ▸ HG.out); go_round; (case rel => exact ⟨k + 1, c + 1, (⟨X.s, X.k, X.n, Y.lo, Y.hi, Y.p⟩ : V), by push_cast; rfl, by push_cast; rfl, by omega, z4.out, z5.out, z1.out, z2.out, z3.out, hS.out.2.2.2.2.2⟩); (case measure => simp [intOf]; omega)) | (have hz : Y = (⟨X.s, X.k, Y.n, Y.lo, Y.hi, Y.p⟩ : V) := V.ext' (up_inj (by assumption)) (by assumption) rfl rfl rfl rfl; have z1 := hide (H8.out.1.wrote (up X.s) X.k Y.n Y.lo Y.hi (up Y.p)); have z2 := hide (H8.out.2.1.put (q := T) (.int .i64 (up X.s)) (.bool X.k) (.int .i64 Y.n) (.int .i64 Y.lo) (.int .i64 Y.hi) (.int .i64 (up Y.p))); have z3 := hide (st6_below H8.out.2.2.2.1 T hS.out.2.2.2.2.2 (.int .i64 (up X.s)) (.bool X.k) (.int .i64 Y.n) (.int .i64 Y.lo) (.int .i64 Y.hi) (.int .i64 (up Y.p))); have z4 := hide (hz ▸ HO.out); have z5 := hide (hz ▸ HG.out); go_round; (case rel => exact ⟨k + 1, c + 1, (⟨X.s, X.k, Y.n, Y.lo, Y.hi, Y.p⟩ : V), by push_cast; rfl, by push_cast; rfl, by omega, z4.out, z5.out, z1.out, z2.out, z3.out, hS.out.2.2.2.2.2⟩); (case measure => simp [intOf]; omega)) | (have hz : Y = (⟨X.s, Y.k, Y.n, Y.lo, Y.hi, Y.p⟩ : V) := V.ext' (up_inj (by assumption)) rfl rfl rfl rfl rfl; have z1 := hide (H8.out.1.wrote (up X.s) Y.k Y.n Y.lo Y.hi (up Y.p)); have z2 := hide (H8.out.2.1.put (q := T) (.int .i64 (up X.s)) (.bool Y.k) (.int .i64 Y.n) (.int .i64 Y.lo) (.int .i64 Y.hi) (.int .i64 (up Y.p))); have z3 := hide (st6_below H8.out.2.2.2.1 T hS.out.2.2.2.2.2 (.int .i64 (up X.s)) (.bool Y.k) (.int .i64 Y.n) (.int .i64 Y.lo) (.int .i64 Y.hi) (.int .i64 (up Y.p))); have z4 := hide (hz ▸ HO.out); have z5 := hide (hz ▸ HG.out); go_round; (case rel => exact ⟨k + 1, c + 1, (⟨X.s, Y.k, Y.n, Y.lo, Y.hi, Y.p⟩ : V), by push_cast; rfl, by push_cast; rfl, by omega, z4.out, z5.out, z1.out, z2.out, z3.out, hS.out.2.2.2.2.2⟩); (case measure => simp [intOf]; omega)) | (have hz : Y = (⟨Y.s, Y.k, Y.n, Y.lo, Y.hi, Y.p⟩ : V) := V.ext' rfl rfl rfl rfl rfl rfl; have z1 := hide (H8.out.1.wrote (up Y.s) Y.k Y.n Y.lo Y.hi (up Y.p)); have z2 := hide (H8.out.2.1.put (q := T) (.int .i64 (up Y.s)) (.bool Y.k) (.int .i64 Y.n) (.int .i64 Y.lo) (.int .i64 Y.hi) (.int .i64 (up Y.p))); have z3 := hide (st6_below H8.out.2.2.2.1 T hS.out.2.2.2.2.2 (.int .i64 (up Y.s)) (.bool Y.k) (.int .i64 Y.n) (.int .i64 Y.lo) (.int .i64 Y.hi) (.int .i64 (up Y.p))); have z4 := hide (hz ▸ HO.out); have z5 := hide (hz ▸ HG.out); go_round; (case rel => exact ⟨k + 1, c + 1, (⟨Y.s, Y.k, Y.n, Y.lo, Y.hi, Y.p⟩ : V), by push_cast; rfl, by push_cast; rfl, by omega, z4.out, z5.out, z1.out, z2.out, z3.out, hS.out.2.2.2.2.2⟩); (case measure => simp [intOf]; omega))
      · have k3 : ¬ (k : Int) < 60 := by omega
        go_wp2_with (go_at_call 12; refine (told_any _).mono ?_; rintro e wT ⟨rfl, hT⟩)
        go_ret
        exact ⟨rfl, hS.out.2.2.2.2.1.trans (hT.mono hS.out.2.2.2.2.1.size)⟩
    · have k2 : ¬ (k : Int) < ts.length := by omega
      go_wp2_with (go_at_call 12; refine (told_any _).mono ?_; rintro e wT ⟨rfl, hT⟩)
      go_ret
      exact ⟨rfl, hS.out.2.2.2.2.1.trans (hT.mono hS.out.2.2.2.2.1.size)⟩
end Go.Proofs.Ytfndahdnbkmkkaa
