import Derived.Test.YtmhicllhjiglkaaG02
import Derived.Test.YtmhicllhjiglkaaG05
import Derived.Deep.RegionHeld3
namespace Go.Proofs.Ytmhicllhjiglkaa
open Go.RowKit
theorem Br.known {w : World} {q : Nat} {s : Int} {k : Bool} {n lo hi p : Int} (h : Br w q s k n lo hi p) (k' : Bool) (n' : Int) : Br ((w.setCell ⟨q, 1, none⟩ (.bool k')).setCell ⟨q, 2, none⟩ (.int .i64 n')) q s k' n' lo hi p := by
  have c0 := h.c0
  have c1 := h.c1
  have c2 := h.c2
  have c3 := h.c3
  have c4 := h.c4
  have c5 := h.c5
  refine ⟨?_, ?_, ?_, ?_, ?_, ?_⟩ <;> simp [go_sem, *]
theorem Br.span {w : World} {q : Nat} {s : Int} {k : Bool} {n lo hi p : Int} (h : Br w q s k n lo hi p) (lo' hi' : Int) : Br ((w.setCell ⟨q, 3, none⟩ (.int .i64 lo')).setCell ⟨q, 4, none⟩ (.int .i64 hi')) q s k n lo' hi' p := by
  have c0 := h.c0
  have c1 := h.c1
  have c2 := h.c2
  have c3 := h.c3
  have c4 := h.c4
  have c5 := h.c5
  refine ⟨?_, ?_, ?_, ?_, ?_, ?_⟩ <;> simp [go_sem, *]
theorem Br.two {w : World} {q r : Nat} {s : Int} {k : Bool} {n lo hi p : Int} (h : Br w r s k n lo hi p) (hq : r ≠ q) (i j : Nat) (u v : Value) : Br ((w.setCell ⟨q, i, none⟩ u).setCell ⟨q, j, none⟩ v) r s k n lo hi p := by
  have ne : ∀ o i : Nat, (⟨q, i, none⟩ : Addr) ≠ ⟨r, o, none⟩ := fun o i t => hq (congrArg Addr.block t).symm
  exact ⟨(World.cell?_setCell_other _ _ _ _ (ne 0 j)).trans ((World.cell?_setCell_other _ _ _ _ (ne 0 i)).trans h.c0), (World.cell?_setCell_other _ _ _ _ (ne 1 j)).trans ((World.cell?_setCell_other _ _ _ _ (ne 1 i)).trans h.c1), (World.cell?_setCell_other _ _ _ _ (ne 2 j)).trans ((World.cell?_setCell_other _ _ _ _ (ne 2 i)).trans h.c2), (World.cell?_setCell_other _ _ _ _ (ne 3 j)).trans ((World.cell?_setCell_other _ _ _ _ (ne 3 i)).trans h.c3), (World.cell?_setCell_other _ _ _ _ (ne 4 j)).trans ((World.cell?_setCell_other _ _ _ _ (ne 4 i)).trans h.c4), (World.cell?_setCell_other _ _ _ _ (ne 5 j)).trans ((World.cell?_setCell_other _ _ _ _ (ne 5 i)).trans h.c5)⟩
theorem Fz.two {w : World} {q r : Nat} (h : Fz w r) (i j : Nat) (u v : Value) : Fz ((w.setCell ⟨q, i, none⟩ u).setCell ⟨q, j, none⟩ v) r := by
  have f0 := h.f0
  have f1 := h.f1
  have f2 := h.f2
  have f3 := h.f3
  have f4 := h.f4
  have f5 := h.f5
  refine ⟨?_, ?_, ?_, ?_, ?_, ?_⟩ <;> simp [*]
theorem two_below {N : Nat} {w0 w : World} (h : Below N w0 w) (q i j : Nat) (hq : N ≤ q) (u v : Value) : Below N w0 ((w.setCell ⟨q, i, none⟩ u).setCell ⟨q, j, none⟩ v) :=
  (h.setCell (p := ⟨q, i, none⟩) hq u).setCell (p := ⟨q, j, none⟩) hq v
end Go.Proofs.Ytmhicllhjiglkaa
namespace Go.Proofs.Ytmhicllhjiglkaa
open Go.RowKit
theorem and7up (s : Int) : bits .and .i64 s 7 = up (low s) := by rw [and_up _ _ (by omega) (by omega), show low 7 = 7#3 from rfl, and7]
set_option maxRecDepth 100000 in
set_option maxHeartbeats 16000000 in
theorem fix_V (s : Int) (k : Bool) (n lo hi p : Int) (w : World) : Calls Try.prog 25 #[.agg #[.int .i64 s, .bool k, .int .i64 n, .int .i64 lo, .int .i64 hi, .int .i64 p]] w fun e w' => e = .returned (.agg #[.int .i64 (up (fixV s k n lo hi p).s), .bool (fixV s k n lo hi p).k, .int .i64 (fixV s k n lo hi p).n, .int .i64 (fixV s k n lo hi p).lo, .int .i64 (fixV s k n lo hi p).hi, .int .i64 (up (fixV s k n lo hi p).p)]) ∧ Below w.heap.size w w' := by
  have e1 := and7up s
  have e2 := and3 p
  have HR : Hid (fixV s k n lo hi p = ⟨if low s = 0 then 7 else low s, k, cleanN k n, min lo hi, max lo hi, if lp p = 0 then 3 else lp p⟩) := rfl
  generalize fixV s k n lo hi p = r at *
  by_cases hs : low s = 0
  · by_cases hp : lp p = 0
    · have d1 : (up (low s) == 0) = true := by rw [show (0 : Int) = up 0 from rfl, up_beq, beq_iff_eq]; exact hs
      have d2 : (up (lp p) == 0) = true := by rw [show (0 : Int) = up 0 from rfl, up_beq, beq_iff_eq]; exact hp
      have HQ : Hid (r = ⟨7, k, cleanN k n, min lo hi, max lo hi, 3⟩) := by unfold Hid; rw [HR.out, if_pos hs, if_pos hp]
      clear hs hp HR
      go_enter Try.func25, Try.ntmps25
      go_upto_region 7 with fail
      go_name_world W hW
      have HA : Hid (Br W w.heap.size 7 k n lo hi 3 ∧ Fz W w.heap.size ∧ Br W (w.heap.size + 1) 0 false 0 0 0 0 ∧ Fz W (w.heap.size + 1) ∧ Below w.heap.size w W) := by
        rw [← hW]
        refine ⟨⟨?_, ?_, ?_, ?_, ?_, ?_⟩, ⟨?_, ?_, ?_, ?_, ?_, ?_⟩, ⟨?_, ?_, ?_, ?_, ?_, ?_⟩, ⟨?_, ?_, ?_, ?_, ?_, ?_⟩, (by repeat (first | exact Below.refl _ _ | (refine Below.drew ?_) | (refine below_drewN ?_ _) | (refine Below.setCell ?_ (by first | omega | (simp; done) | (simp; omega)) _) | (refine Below.alloc ?_ (by first | omega | (simp; done) | (simp; omega)) _) | (refine Below.trans ?_ (Below.mono (by assumption) (by first | omega | (simp; done) | (simp; omega))))))⟩ <;> simp [go_sem]
      clear hW
      obtain ⟨N, hN⟩ : ∃ N, N = w.heap.size := ⟨_, rfl⟩
      rw [← hN] at HA ⊢
      have HN : Hid (N = w.heap.size) := hN
      clear hN
      have a0 := HA.out.1.c0
      have a1 := HA.out.1.c1
      have a2 := HA.out.1.c2
      have a3 := HA.out.1.c3
      have a4 := HA.out.1.c4
      have a5 := HA.out.1.c5
      go_upto_region 8 with (go_at_call 63; refine (kclean_any _ _ _).mono ?_; rintro e wK ⟨rfl, hK⟩; clear a0 a1 a2 a3 a4 a5; have K := And.intro (HA.out.1.keep hK) (And.intro (HA.out.2.1.keep HA.out.1.lt hK) (And.intro (HA.out.2.2.1.keep hK) (And.intro (HA.out.2.2.2.1.keep HA.out.2.2.1.lt hK) (HA.out.2.2.2.2.trans (hK.mono (Nat.le_of_lt HA.out.1.lt)))))); have a0 := K.1.c0; have a1 := K.1.c1; have a2 := K.1.c2; have a3 := K.1.c3; have a4 := K.1.c4; have a5 := K.1.c5; have f0 := K.2.1.f0; have f1 := K.2.1.f1; have f2 := K.2.1.f2; have f3 := K.2.1.f3; have f4 := K.2.1.f4; have f5 := K.2.1.f5)
      go_name_world W2 hW2
      have HB : Hid (Br W2 N 7 k (cleanN k n) lo hi 3 ∧ Fz W2 N ∧ Br W2 (N + 1) 0 false 0 0 0 0 ∧ Fz W2 (N + 1) ∧ Below N w W2) := by
        rw [← hW2]
        exact ⟨K.1.known _ _, K.2.1.two _ _ _ _, K.2.2.1.two (by omega) _ _ _ _, K.2.2.2.1.two _ _ _ _, two_below K.2.2.2.2 N _ _ (Nat.le_refl _) _ _⟩
      clear hW2 hK K HA a0 a1 a2 a3 a4 a5 f0 f1 f2 f3 f4 f5
      have a0 := HB.out.1.c0
      have a1 := HB.out.1.c1
      have a2 := HB.out.1.c2
      have a3 := HB.out.1.c3
      have a4 := HB.out.1.c4
      have a5 := HB.out.1.c5
      go_upto_region 9 with (go_at_call 64; refine (bel2 (nfix_any _ _ _)).mono ?_; rintro e wK ⟨rfl, hK⟩; clear a0 a1 a2 a3 a4 a5; have K := And.intro (HB.out.1.keep hK) (And.intro (HB.out.2.1.keep HB.out.1.lt hK) (And.intro (HB.out.2.2.1.keep hK) (And.intro (HB.out.2.2.2.1.keep HB.out.2.2.1.lt hK) (HB.out.2.2.2.2.trans (hK.mono (Nat.le_of_lt HB.out.1.lt)))))); have a0 := K.1.c0; have a1 := K.1.c1; have a2 := K.1.c2; have a3 := K.1.c3; have a4 := K.1.c4; have a5 := K.1.c5; have f0 := K.2.1.f0; have f1 := K.2.1.f1; have f2 := K.2.1.f2; have f3 := K.2.1.f3; have f4 := K.2.1.f4; have f5 := K.2.1.f5)
      go_name_world W3 hW3
      have HC : Hid (Br W3 N 7 k (cleanN k n) (min lo hi) (max lo hi) 3 ∧ Br W3 (N + 1) 0 false 0 0 0 0 ∧ Fz W3 (N + 1) ∧ Below N w W3) := by
        rw [← hW3]
        exact ⟨K.1.span _ _, K.2.2.1.two (by omega) _ _ _ _, K.2.2.2.1.two _ _ _ _, two_below K.2.2.2.2 N _ _ (Nat.le_refl _) _ _⟩
      clear hW3 hK K HB a0 a1 a2 a3 a4 a5 f0 f1 f2 f3 f4 f5
      have a0 := HC.out.1.c0
      have a1 := HC.out.1.c1
      have a2 := HC.out.1.c2
      have a3 := HC.out.1.c3
      have a4 := HC.out.1.c4
      have a5 := HC.out.1.c5
      have b0 := HC.out.2.1.c0
      have b1 := HC.out.2.1.c1
      have b2 := HC.out.2.1.c2
      have b3 := HC.out.2.1.c3
      have b4 := HC.out.2.1.c4
      have b5 := HC.out.2.1.c5
      have f0 := HC.out.2.2.1.f0
      have f1 := HC.out.2.2.1.f1
      have f2 := HC.out.2.2.1.f2
      have f3 := HC.out.2.2.1.f3
      have f4 := HC.out.2.2.1.f4
      have f5 := HC.out.2.2.1.f5
      have hB := HC.out.2.2.2
      go_wp2_with fail
      have zw := HC.out.2.1.wrote 7 k (cleanN k n) (min lo hi) (max lo hi) 3
      have hZ := st6_below HC.out.2.2.2 (N + 1) (Nat.le_succ _) (.int .i64 7) (.bool k) (.int .i64 (cleanN k n)) (.int .i64 (min lo hi)) (.int .i64 (max lo hi)) (.int .i64 3)
      clear HC hB e1 e2 d1 d2 a0 a1 a2 a3 a4 a5 b0 b1 b2 b3 b4 b5 f0 f1 f2 f3 f4 f5
      have a0 := zw.c0
      have a1 := zw.c1
      have a2 := zw.c2
      have a3 := zw.c3
      have a4 := zw.c4
      have a5 := zw.c5
      clear zw
      refine bodyPost_ret (by simp [results, Try.results25, go_sem, *]; try rfl) rfl ⟨?_, by rw [← HN.out]; exact hZ⟩
      rw [HQ.out] <;> rfl
    · have d1 : (up (low s) == 0) = true := by rw [show (0 : Int) = up 0 from rfl, up_beq, beq_iff_eq]; exact hs
      have d2 : (up (lp p) == 0) = false := by rw [show (0 : Int) = up 0 from rfl, up_beq, beq_eq_false_iff_ne]; exact hp
      have HQ : Hid (r = ⟨7, k, cleanN k n, min lo hi, max lo hi, lp p⟩) := by unfold Hid; rw [HR.out, if_pos hs, if_neg hp]
      clear hs hp HR
      go_enter Try.func25, Try.ntmps25
      go_upto_region 7 with fail
      go_name_world W hW
      have HA : Hid (Br W w.heap.size 7 k n lo hi (up (lp p)) ∧ Fz W w.heap.size ∧ Br W (w.heap.size + 1) 0 false 0 0 0 0 ∧ Fz W (w.heap.size + 1) ∧ Below w.heap.size w W) := by
        rw [← hW]
        refine ⟨⟨?_, ?_, ?_, ?_, ?_, ?_⟩, ⟨?_, ?_, ?_, ?_, ?_, ?_⟩, ⟨?_, ?_, ?_, ?_, ?_, ?_⟩, ⟨?_, ?_, ?_, ?_, ?_, ?_⟩, (by repeat (first | exact Below.refl _ _ | (refine Below.drew ?_) | (refine below_drewN ?_ _) | (refine Below.setCell ?_ (by first | omega | (simp; done) | (simp; omega)) _) | (refine Below.alloc ?_ (by first | omega | (simp; done) | (simp; omega)) _) | (refine Below.trans ?_ (Below.mono (by assumption) (by first | omega | (simp; done) | (simp; omega))))))⟩ <;> simp [go_sem]
      clear hW
      obtain ⟨N, hN⟩ : ∃ N, N = w.heap.size := ⟨_, rfl⟩
      rw [← hN] at HA ⊢
      have HN : Hid (N = w.heap.size) := hN
      clear hN
      have a0 := HA.out.1.c0
      have a1 := HA.out.1.c1
      have a2 := HA.out.1.c2
      have a3 := HA.out.1.c3
      have a4 := HA.out.1.c4
      have a5 := HA.out.1.c5
      go_upto_region 8 with (go_at_call 63; refine (kclean_any _ _ _).mono ?_; rintro e wK ⟨rfl, hK⟩; clear a0 a1 a2 a3 a4 a5; have K := And.intro (HA.out.1.keep hK) (And.intro (HA.out.2.1.keep HA.out.1.lt hK) (And.intro (HA.out.2.2.1.keep hK) (And.intro (HA.out.2.2.2.1.keep HA.out.2.2.1.lt hK) (HA.out.2.2.2.2.trans (hK.mono (Nat.le_of_lt HA.out.1.lt)))))); have a0 := K.1.c0; have a1 := K.1.c1; have a2 := K.1.c2; have a3 := K.1.c3; have a4 := K.1.c4; have a5 := K.1.c5; have f0 := K.2.1.f0; have f1 := K.2.1.f1; have f2 := K.2.1.f2; have f3 := K.2.1.f3; have f4 := K.2.1.f4; have f5 := K.2.1.f5)
      go_name_world W2 hW2
      have HB : Hid (Br W2 N 7 k (cleanN k n) lo hi (up (lp p)) ∧ Fz W2 N ∧ Br W2 (N + 1) 0 false 0 0 0 0 ∧ Fz W2 (N + 1) ∧ Below N w W2) := by
        rw [← hW2]
        exact ⟨K.1.known _ _, K.2.1.two _ _ _ _, K.2.2.1.two (by omega) _ _ _ _, K.2.2.2.1.two _ _ _ _, two_below K.2.2.2.2 N _ _ (Nat.le_refl _) _ _⟩
      clear hW2 hK K HA a0 a1 a2 a3 a4 a5 f0 f1 f2 f3 f4 f5
      have a0 := HB.out.1.c0
      have a1 := HB.out.1.c1
      have a2 := HB.out.1.c2
      have a3 := HB.out.1.c3
      have a4 := HB.out.1.c4
      have a5 := HB.out.1.c5
      go_upto_region 9 with (go_at_call 64; refine (bel2 (nfix_any _ _ _)).mono ?_; rintro e wK ⟨rfl, hK⟩; clear a0 a1 a2 a3 a4 a5; have K := And.intro (HB.out.1.keep hK) (And.intro (HB.out.2.1.keep HB.out.1.lt hK) (And.intro (HB.out.2.2.1.keep hK) (And.intro (HB.out.2.2.2.1.keep HB.out.2.2.1.lt hK) (HB.out.2.2.2.2.trans (hK.mono (Nat.le_of_lt HB.out.1.lt)))))); have a0 := K.1.c0; have a1 := K.1.c1; have a2 := K.1.c2; have a3 := K.1.c3; have a4 := K.1.c4; have a5 := K.1.c5; have f0 := K.2.1.f0; have f1 := K.2.1.f1; have f2 := K.2.1.f2; have f3 := K.2.1.f3; have f4 := K.2.1.f4; have f5 := K.2.1.f5)
      go_name_world W3 hW3
      have HC : Hid (Br W3 N 7 k (cleanN k n) (min lo hi) (max lo hi) (up (lp p)) ∧ Br W3 (N + 1) 0 false 0 0 0 0 ∧ Fz W3 (N + 1) ∧ Below N w W3) := by
        rw [← hW3]
        exact ⟨K.1.span _ _, K.2.2.1.two (by omega) _ _ _ _, K.2.2.2.1.two _ _ _ _, two_below K.2.2.2.2 N _ _ (Nat.le_refl _) _ _⟩
      clear hW3 hK K HB a0 a1 a2 a3 a4 a5 f0 f1 f2 f3 f4 f5
      have a0 := HC.out.1.c0
      have a1 := HC.out.1.c1
      have a2 := HC.out.1.c2
      have a3 := HC.out.1.c3
      have a4 := HC.out.1.c4
      have a5 := HC.out.1.c5
      have b0 := HC.out.2.1.c0
      have b1 := HC.out.2.1.c1
      have b2 := HC.out.2.1.c2
      have b3 := HC.out.2.1.c3
      have b4 := HC.out.2.1.c4
      have b5 := HC.out.2.1.c5
      have f0 := HC.out.2.2.1.f0
      have f1 := HC.out.2.2.1.f1
      have f2 := HC.out.2.2.1.f2
      have f3 := HC.out.2.2.1.f3
      have f4 := HC.out.2.2.1.f4
      have f5 := HC.out.2.2.1.f5
      have hB := HC.out.2.2.2
      go_wp2_with fail
      have zw := HC.out.2.1.wrote 7 k (cleanN k n) (min lo hi) (max lo hi) (up (lp p))
      have hZ := st6_below HC.out.2.2.2 (N + 1) (Nat.le_succ _) (.int .i64 7) (.bool k) (.int .i64 (cleanN k n)) (.int .i64 (min lo hi)) (.int .i64 (max lo hi)) (.int .i64 (up (lp p)))
      clear HC hB e1 e2 d1 d2 a0 a1 a2 a3 a4 a5 b0 b1 b2 b3 b4 b5 f0 f1 f2 f3 f4 f5
      have a0 := zw.c0
      have a1 := zw.c1
      have a2 := zw.c2
      have a3 := zw.c3
      have a4 := zw.c4
      have a5 := zw.c5
      clear zw
      refine bodyPost_ret (by simp [results, Try.results25, go_sem, *]; try rfl) rfl ⟨?_, by rw [← HN.out]; exact hZ⟩
      rw [HQ.out] <;> rfl
  · by_cases hp : lp p = 0
    · have d1 : (up (low s) == 0) = false := by rw [show (0 : Int) = up 0 from rfl, up_beq, beq_eq_false_iff_ne]; exact hs
      have d2 : (up (lp p) == 0) = true := by rw [show (0 : Int) = up 0 from rfl, up_beq, beq_iff_eq]; exact hp
      have HQ : Hid (r = ⟨low s, k, cleanN k n, min lo hi, max lo hi, 3⟩) := by unfold Hid; rw [HR.out, if_neg hs, if_pos hp]
      clear hs hp HR
      go_enter Try.func25, Try.ntmps25
      go_upto_region 7 with fail
      go_name_world W hW
      have HA : Hid (Br W w.heap.size (up (low s)) k n lo hi 3 ∧ Fz W w.heap.size ∧ Br W (w.heap.size + 1) 0 false 0 0 0 0 ∧ Fz W (w.heap.size + 1) ∧ Below w.heap.size w W) := by
        rw [← hW]
        refine ⟨⟨?_, ?_, ?_, ?_, ?_, ?_⟩, ⟨?_, ?_, ?_, ?_, ?_, ?_⟩, ⟨?_, ?_, ?_, ?_, ?_, ?_⟩, ⟨?_, ?_, ?_, ?_, ?_, ?_⟩, (by repeat (first | exact Below.refl _ _ | (refine Below.drew ?_) | (refine below_drewN ?_ _) | (refine Below.setCell ?_ (by first | omega | (simp; done) | (simp; omega)) _) | (refine Below.alloc ?_ (by first | omega | (simp; done) | (simp; omega)) _) | (refine Below.trans ?_ (Below.mono (by assumption) (by first | omega | (simp; done) | (simp; omega))))))⟩ <;> simp [go_sem]
      clear hW
      obtain ⟨N, hN⟩ : ∃ N, N = w.heap.size := ⟨_, rfl⟩
      rw [← hN] at HA ⊢
      have HN : Hid (N = w.heap.size) := hN
      clear hN
      have a0 := HA.out.1.c0
      have a1 := HA.out.1.c1
      have a2 := HA.out.1.c2
      have a3 := HA.out.1.c3
      have a4 := HA.out.1.c4
      have a5 := HA.out.1.c5
      go_upto_region 8 with (go_at_call 63; refine (kclean_any _ _ _).mono ?_; rintro e wK ⟨rfl, hK⟩; clear a0 a1 a2 a3 a4 a5; have K := And.intro (HA.out.1.keep hK) (And.intro (HA.out.2.1.keep HA.out.1.lt hK) (And.intro (HA.out.2.2.1.keep hK) (And.intro (HA.out.2.2.2.1.keep HA.out.2.2.1.lt hK) (HA.out.2.2.2.2.trans (hK.mono (Nat.le_of_lt HA.out.1.lt)))))); have a0 := K.1.c0; have a1 := K.1.c1; have a2 := K.1.c2; have a3 := K.1.c3; have a4 := K.1.c4; have a5 := K.1.c5; have f0 := K.2.1.f0; have f1 := K.2.1.f1; have f2 := K.2.1.f2; have f3 := K.2.1.f3; have f4 := K.2.1.f4; have f5 := K.2.1.f5)
      go_name_world W2 hW2
      have HB : Hid (Br W2 N (up (low s)) k (cleanN k n) lo hi 3 ∧ Fz W2 N ∧ Br W2 (N + 1) 0 false 0 0 0 0 ∧ Fz W2 (N + 1) ∧ Below N w W2) := by
        rw [← hW2]
        exact ⟨K.1.known _ _, K.2.1.two _ _ _ _, K.2.2.1.two (by omega) _ _ _ _, K.2.2.2.1.two _ _ _ _, two_below K.2.2.2.2 N _ _ (Nat.le_refl _) _ _⟩
      clear hW2 hK K HA a0 a1 a2 a3 a4 a5 f0 f1 f2 f3 f4 f5
      have a0 := HB.out.1.c0
      have a1 := HB.out.1.c1
      have a2 := HB.out.1.c2
      have a3 := HB.out.1.c3
      have a4 := HB.out.1.c4
      have a5 := HB.out.1.c5
      go_upto_region 9 with (go_at_call 64; refine (bel2 (nfix_any _ _ _)).mono ?_; rintro e wK ⟨rfl, hK⟩; clear a0 a1 a2 a3 a4 a5; have K := And.intro (HB.out.1.keep hK) (And.intro (HB.out.2.1.keep HB.out.1.lt hK) (And.intro (HB.out.2.2.1.keep hK) (And.intro (HB.out.2.2.2.1.keep HB.out.2.2.1.lt hK) (HB.out.2.2.2.2.trans (hK.mono (Nat.le_of_lt HB.out.1.lt)))))); have a0 := K.1.c0; have a1 := K.1.c1; have a2 := K.1.c2; have a3 := K.1.c3; have a4 := K.1.c4; have a5 := K.1.c5; have f0 := K.2.1.f0; have f1 := K.2.1.f1; have f2 := K.2.1.f2; have f3 := K.2.1.f3; have f4 := K.2.1.f4; have f5 := K.2.1.f5)
      go_name_world W3 hW3
      have HC : Hid (Br W3 N (up (low s)) k (cleanN k n) (min lo hi) (max lo hi) 3 ∧ Br W3 (N + 1) 0 false 0 0 0 0 ∧ Fz W3 (N + 1) ∧ Below N w W3) := by
        rw [← hW3]
        exact ⟨K.1.span _ _, K.2.2.1.two (by omega) _ _ _ _, K.2.2.2.1.two _ _ _ _, two_below K.2.2.2.2 N _ _ (Nat.le_refl _) _ _⟩
      clear hW3 hK K HB a0 a1 a2 a3 a4 a5 f0 f1 f2 f3 f4 f5
      have a0 := HC.out.1.c0
      have a1 := HC.out.1.c1
      have a2 := HC.out.1.c2
      have a3 := HC.out.1.c3
      have a4 := HC.out.1.c4
      have a5 := HC.out.1.c5
      have b0 := HC.out.2.1.c0
      have b1 := HC.out.2.1.c1
      have b2 := HC.out.2.1.c2
      have b3 := HC.out.2.1.c3
      have b4 := HC.out.2.1.c4
      have b5 := HC.out.2.1.c5
      have f0 := HC.out.2.2.1.f0
      have f1 := HC.out.2.2.1.f1
      have f2 := HC.out.2.2.1.f2
      have f3 := HC.out.2.2.1.f3
      have f4 := HC.out.2.2.1.f4
      have f5 := HC.out.2.2.1.f5
      have hB := HC.out.2.2.2
      go_wp2_with fail
      have zw := HC.out.2.1.wrote (up (low s)) k (cleanN k n) (min lo hi) (max lo hi) 3
      have hZ := st6_below HC.out.2.2.2 (N + 1) (Nat.le_succ _) (.int .i64 (up (low s))) (.bool k) (.int .i64 (cleanN k n)) (.int .i64 (min lo hi)) (.int .i64 (max lo hi)) (.int .i64 3)
      clear HC hB e1 e2 d1 d2 a0 a1 a2 a3 a4 a5 b0 b1 b2 b3 b4 b5 f0 f1 f2 f3 f4 f5
      have a0 := zw.c0
      have a1 := zw.c1
      have a2 := zw.c2
      have a3 := zw.c3
      have a4 := zw.c4
      have a5 := zw.c5
      clear zw
      refine bodyPost_ret (by simp [results, Try.results25, go_sem, *]; try rfl) rfl ⟨?_, by rw [← HN.out]; exact hZ⟩
      rw [HQ.out] <;> rfl
    · have d1 : (up (low s) == 0) = false := by rw [show (0 : Int) = up 0 from rfl, up_beq, beq_eq_false_iff_ne]; exact hs
      have d2 : (up (lp p) == 0) = false := by rw [show (0 : Int) = up 0 from rfl, up_beq, beq_eq_false_iff_ne]; exact hp
      have HQ : Hid (r = ⟨low s, k, cleanN k n, min lo hi, max lo hi, lp p⟩) := by unfold Hid; rw [HR.out, if_neg hs, if_neg hp]
      clear hs hp HR
      go_enter Try.func25, Try.ntmps25
      go_upto_region 7 with fail
      go_name_world W hW
      have HA : Hid (Br W w.heap.size (up (low s)) k n lo hi (up (lp p)) ∧ Fz W w.heap.size ∧ Br W (w.heap.size + 1) 0 false 0 0 0 0 ∧ Fz W (w.heap.size + 1) ∧ Below w.heap.size w W) := by
        rw [← hW]
        refine ⟨⟨?_, ?_, ?_, ?_, ?_, ?_⟩, ⟨?_, ?_, ?_, ?_, ?_, ?_⟩, ⟨?_, ?_, ?_, ?_, ?_, ?_⟩, ⟨?_, ?_, ?_, ?_, ?_, ?_⟩, (by repeat (first | exact Below.refl _ _ | (refine Below.drew ?_) | (refine below_drewN ?_ _) | (refine Below.setCell ?_ (by first | omega | (simp; done) | (simp; omega)) _) | (refine Below.alloc ?_ (by first | omega | (simp; done) | (simp; omega)) _) | (refine Below.trans ?_ (Below.mono (by assumption) (by first | omega | (simp; done) | (simp; omega))))))⟩ <;> simp [go_sem]
      clear hW
      obtain ⟨N, hN⟩ : ∃ N, N = w.heap.size := ⟨_, rfl⟩
      rw [← hN] at HA ⊢
      have HN : Hid (N = w.heap.size) := hN
      clear hN
      have a0 := HA.out.1.c0
      have a1 := HA.out.1.c1
      have a2 := HA.out.1.c2
      have a3 := HA.out.1.c3
      have a4 := HA.out.1.c4
      have a5 := HA.out.1.c5
      go_upto_region 8 with (go_at_call 63; refine (kclean_any _ _ _).mono ?_; rintro e wK ⟨rfl, hK⟩; clear a0 a1 a2 a3 a4 a5; have K := And.intro (HA.out.1.keep hK) (And.intro (HA.out.2.1.keep HA.out.1.lt hK) (And.intro (HA.out.2.2.1.keep hK) (And.intro (HA.out.2.2.2.1.keep HA.out.2.2.1.lt hK) (HA.out.2.2.2.2.trans (hK.mono (Nat.le_of_lt HA.out.1.lt)))))); have a0 := K.1.c0; have a1 := K.1.c1; have a2 := K.1.c2; have a3 := K.1.c3; have a4 := K.1.c4; have a5 := K.1.c5; have f0 := K.2.1.f0; have f1 := K.2.1.f1; have f2 := K.2.1.f2; have f3 := K.2.1.f3; have f4 := K.2.1.f4; have f5 := K.2.1.f5)
      go_name_world W2 hW2
      have HB : Hid (Br W2 N (up (low s)) k (cleanN k n) lo hi (up (lp p)) ∧ Fz W2 N ∧ Br W2 (N + 1) 0 false 0 0 0 0 ∧ Fz W2 (N + 1) ∧ Below N w W2) := by
        rw [← hW2]
        exact ⟨K.1.known _ _, K.2.1.two _ _ _ _, K.2.2.1.two (by omega) _ _ _ _, K.2.2.2.1.two _ _ _ _, two_below K.2.2.2.2 N _ _ (Nat.le_refl _) _ _⟩
      clear hW2 hK K HA a0 a1 a2 a3 a4 a5 f0 f1 f2 f3 f4 f5
      have a0 := HB.out.1.c0
      have a1 := HB.out.1.c1
      have a2 := HB.out.1.c2
      have a3 := HB.out.1.c3
      have a4 := HB.out.1.c4
      have a5 := HB.out.1.c5
      go_upto_region 9 with (go_at_call 64; refine (bel2 (nfix_any _ _ _)).mono ?_; rintro e wK ⟨rfl, hK⟩; clear a0 a1 a2 a3 a4 a5; have K := And.intro (HB.out.1.keep hK) (And.intro (HB.out.2.1.keep HB.out.1.lt hK) (And.intro (HB.out.2.2.1.keep hK) (And.intro (HB.out.2.2.2.1.keep HB.out.2.2.1.lt hK) (HB.out.2.2.2.2.trans (hK.mono (Nat.le_of_lt HB.out.1.lt)))))); have a0 := K.1.c0; have a1 := K.1.c1; have a2 := K.1.c2; have a3 := K.1.c3; have a4 := K.1.c4; have a5 := K.1.c5; have f0 := K.2.1.f0; have f1 := K.2.1.f1; have f2 := K.2.1.f2; have f3 := K.2.1.f3; have f4 := K.2.1.f4; have f5 := K.2.1.f5)
      go_name_world W3 hW3
      have HC : Hid (Br W3 N (up (low s)) k (cleanN k n) (min lo hi) (max lo hi) (up (lp p)) ∧ Br W3 (N + 1) 0 false 0 0 0 0 ∧ Fz W3 (N + 1) ∧ Below N w W3) := by
        rw [← hW3]
        exact ⟨K.1.span _ _, K.2.2.1.two (by omega) _ _ _ _, K.2.2.2.1.two _ _ _ _, two_below K.2.2.2.2 N _ _ (Nat.le_refl _) _ _⟩
      clear hW3 hK K HB a0 a1 a2 a3 a4 a5 f0 f1 f2 f3 f4 f5
      have a0 := HC.out.1.c0
      have a1 := HC.out.1.c1
      have a2 := HC.out.1.c2
      have a3 := HC.out.1.c3
      have a4 := HC.out.1.c4
      have a5 := HC.out.1.c5
      have b0 := HC.out.2.1.c0
      have b1 := HC.out.2.1.c1
      have b2 := HC.out.2.1.c2
      have b3 := HC.out.2.1.c3
      have b4 := HC.out.2.1.c4
      have b5 := HC.out.2.1.c5
      have f0 := HC.out.2.2.1.f0
      have f1 := HC.out.2.2.1.f1
      have f2 := HC.out.2.2.1.f2
      have f3 := HC.out.2.2.1.f3
      have f4 := HC.out.2.2.1.f4
      have f5 := HC.out.2.2.1.f5
      have hB := HC.out.2.2.2
      go_wp2_with fail
      have zw := HC.out.2.1.wrote (up (low s)) k (cleanN k n) (min lo hi) (max lo hi) (up (lp p))
      have hZ := st6_below HC.out.2.2.2 (N + 1) (Nat.le_succ _) (.int .i64 (up (low s))) (.bool k) (.int .i64 (cleanN k n)) (.int .i64 (min lo hi)) (.int .i64 (max lo hi)) (.int .i64 (up (lp p)))
      clear HC hB e1 e2 d1 d2 a0 a1 a2 a3 a4 a5 b0 b1 b2 b3 b4 b5 f0 f1 f2 f3 f4 f5
      have a0 := zw.c0
      have a1 := zw.c1
      have a2 := zw.c2
      have a3 := zw.c3
      have a4 := zw.c4
      have a5 := zw.c5
      clear zw
      refine bodyPost_ret (by simp [results, Try.results25, go_sem, *]; try rfl) rfl ⟨?_, by rw [← HN.out]; exact hZ⟩
      rw [HQ.out] <;> rfl
end Go.Proofs.Ytmhicllhjiglkaa
namespace Go.Proofs.Ytmhicllhjiglkaa
open Go.RowKit
/-- how many registers -/
theorem regs_any (r : Bool) (a b : Option Addr) (n c m d : Nat) (w : World) :
    Calls Try.prog 51 #[.agg #[.bool r, .slice a n c, .slice b m d]] w fun e w' => e = .returned (.int .i64 ((min n m : Nat) : Int)) ∧ Below w.heap.size w w' := by
  by_cases h : n ≤ m
  · have e : min n m = n := Nat.min_eq_left h
    rw [e]
    have h2 : (n : Int) ≤ m := by omega
    go_enter Try.func51, Try.ntmps51
    go_wp2
    go_ret
    exact ⟨by simp; try omega, (Below.refl _ _).alloc (Nat.le_refl _) _⟩
  · have e : min n m = m := Nat.min_eq_right (by omega)
    rw [e]
    have h2 : (m : Int) ≤ n := by omega
    go_enter Try.func51, Try.ntmps51
    go_wp2
    go_ret
    exact ⟨by simp; try omega, (Below.refl _ _).alloc (Nat.le_refl _) _⟩
/-- a State that is Right, of n registers at most, and sites below k -/
structure SOk (s : S) (us : List V) (n k : Nat) : Prop where
  vs : s.vs = us.map V.raw
  len : s.ss.length = us.length
  le : us.length ≤ n
  ok : ∀ u ∈ us, u.ok
  up : ∀ l ∈ s.ss, UpP l ∧ (∀ y ∈ l, 0 ≤ y ∧ y < (k : Int)) ∧ l.length ≤ 60
  nr : s.r = false → us = []
/-- what is made so far -/
structure OKs (us : List V) (ts : List (List Int)) (k : Nat) : Prop where
  len : ts.length = us.length
  ok : ∀ u ∈ us, u.ok
  up : ∀ l ∈ ts, UpP l ∧ (∀ y ∈ l, 0 ≤ y ∧ y < (k : Int)) ∧ l.length ≤ 60
theorem OKs.app {us : List V} {ts : List (List Int)} {k : Nat} (h : OKs us ts k) {u : V} (hu : u.ok) {l lst : List Int} (h1 : UpP l) (h2 : ∀ y, y ∈ l ↔ y ∈ lst) (h3 : l.length ≤ lst.length) (h4 : ∀ y ∈ lst, 0 ≤ y ∧ y < (k : Int)) (h5 : lst.length ≤ 60) : OKs (us ++ [u]) (ts ++ [l]) k := by
  refine ⟨by simp [h.len], fun v hv => ?_, fun m hm => ?_⟩
  · rcases List.mem_append.1 hv with hv | hv
    · exact h.ok v hv
    · simp at hv; subst hv; exact hu
  · rcases List.mem_append.1 hm with hm | hm
    · exact h.up m hm
    · simp at hm; subst hm; exact ⟨h1, fun y hy => h4 y ((h2 y).1 hy), by omega⟩
theorem B6.newV (w : World) (u : V) (t : TypeId) : B6 (w.alloc (.cells #[.int .i64 (up u.s), .bool u.k, .int .i64 u.n, .int .i64 u.lo, .int .i64 u.hi, .int .i64 (up u.p)] t)) w.heap.size 0 u.raw := B6.new w u.raw t
theorem rs_none (w : World) : Rs w (.agg #[.bool false, .slice none 0 0, .slice none 0 0]) ⟨false, [], []⟩ := ⟨none, 0, none, 0, rfl, RV.nil _ _, RR.nil _ _, Nat.le_refl _, Nat.le_refl _, fun _ => rfl, fun _ => rfl⟩
theorem mod_lo (x : Int) (k : Nat) (hk : 0 < k) (h : k ≤ 4096) : 0 ≤ x % (k : Int) ∧ x % (k : Int) < k := ⟨Int.emod_nonneg _ (by omega), Int.emod_lt_of_pos _ (by omega)⟩
theorem site_ok (y : Int) (sk : Nat) (h : 0 < sk) (h2 : sk ≤ 4096) : 0 ≤ wrap64 ((IntKind.u64.wrap y).tmod sk) ∧ wrap64 ((IntKind.u64.wrap y).tmod sk) < sk := by
  have h0 : 0 ≤ IntKind.u64.wrap y := by
    unfold IntKind.wrap
    simp [IntKind.signed, IntKind.bits]
    omega
  rw [Int.tmod_eq_emod_of_nonneg h0]
  have a := Int.emod_nonneg (IntKind.u64.wrap y) (show (sk : Int) ≠ 0 by omega)
  have b := Int.emod_lt_of_pos (IntKind.u64.wrap y) (show (0 : Int) < sk by omega)
  generalize IntKind.u64.wrap y % (sk : Int) = z at *
  have e : wrap64 z = z := by
    unfold wrap64
    omega
  rw [e]
  exact ⟨a, b⟩
end Go.Proofs.Ytmhicllhjiglkaa
