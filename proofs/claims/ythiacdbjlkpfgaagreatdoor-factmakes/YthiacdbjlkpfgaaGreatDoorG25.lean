import Derived.Test.YthiacdbjlkpfgaaGreatDoorG01
namespace Go.Proofs.YthiacdbjlkpfgaaGreatDoor
open Go.RowKit
theorem and7up (s : Int) : bits .and .i64 s 7 = up (low s) := by rw [and_up _ _ (by omega) (by omega), show low 7 = 7#3 from rfl, and7]
set_option maxRecDepth 100000 in
set_option maxHeartbeats 16000000 in
theorem fix_V (s : Int) (k : Bool) (n lo hi p : Int) (w : World) : Calls Tryz.prog 4 #[.agg #[.int .i64 s, .bool k, .int .i64 n, .int .i64 lo, .int .i64 hi, .int .i64 p]] w fun e w' => e = .returned (.agg #[.int .i64 (up (fixV s k n lo hi p).s), .bool (fixV s k n lo hi p).k, .int .i64 (fixV s k n lo hi p).n, .int .i64 (fixV s k n lo hi p).lo, .int .i64 (fixV s k n lo hi p).hi, .int .i64 (up (fixV s k n lo hi p).p)]) ∧ Below w.heap.size w w' := by
  have e1 := and7up s
  have e2 := and3 p
  have HR : Hid (fixV s k n lo hi p = ⟨if low s = 0 then 7 else low s, k, cleanN k n, min lo hi, max lo hi, if lp p = 0 then 3 else lp p⟩) := rfl
  generalize fixV s k n lo hi p = r at *
  by_cases hs : low s = 0
  · by_cases hp : lp p = 0
    · have d1 : (up (low s) == 0) = true := by rw [show (0 : Int) = up 0 from rfl, up_beq, beq_iff_eq]; exact hs
      have d2 : (up (lp p) == 0) = true := by rw [show (0 : Int) = up 0 from rfl, up_beq, beq_iff_eq]; exact hp
      have HQ : Hid (r = ⟨7, k, cleanN k n, min lo hi, max lo hi, 3⟩) := by unfold Hid; rw [HR.out, if_pos hs, if_pos hp]
      clear hs hp HR
      go_enter Tryz.func4, Tryz.ntmps4
      go_upto_region 7 with fail
      go_name_world W hW
      have HA : Hid (Br W w.heap.size 7 k n lo hi 3 ∧ Fz W w.heap.size ∧ Br W (w.heap.size + 1) 0 false 0 0 0 0 ∧ Fz W (w.heap.size + 1) ∧ Below w.heap.size w W) := by
        rw [← hW]
        refine ⟨⟨?_, ?_, ?_, ?_, ?_, ?_⟩, ⟨?_, ?_, ?_, ?_, ?_, ?_⟩, ⟨?_, ?_, ?_, ?_, ?_, ?_⟩, ⟨?_, ?_, ?_, ?_, ?_, ?_⟩, (by repeat (first | exact Below.refl _ _ | (refine Below.drew ?_) | (refine below_drewN ?_ _) | (refine Below.setCell ?_ (by first | omega | (simp; done) | (simp; omega)) _) | (refine Below.alloc ?_ (by first | omega | (simp; done) | (simp; omega)) _) | (refine Below.trans ?_ (Below.mono (by assumption) (by first | omega | (simp; done) | (simp; omega))))))⟩ <;> simp [go_sem]
      clear hW
      obtain ⟨N, hN⟩ : ∃ N, N = w.heap.size := ⟨_, rfl⟩
      rw [← hN] at HA ⊢
      have HN : Hid (N = w.heap.size) := hN
      clear hN
      have a0 := HA.out.1.c0
      have a1 := HA.out.1.c1
      have a2 := HA.out.1.c2
      have a3 := HA.out.1.c3
      have a4 := HA.out.1.c4
      have a5 := HA.out.1.c5
      go_upto_region 8 with (go_at_call 14; refine (kclean_any _ _ _).mono ?_; rintro e wK ⟨rfl, hK⟩; clear a0 a1 a2 a3 a4 a5; have K := And.intro (HA.out.1.keep hK) (And.intro (HA.out.2.1.keep HA.out.1.lt hK) (And.intro (HA.out.2.2.1.keep hK) (And.intro (HA.out.2.2.2.1.keep HA.out.2.2.1.lt hK) (HA.out.2.2.2.2.trans (hK.mono (Nat.le_of_lt HA.out.1.lt)))))); have a0 := K.1.c0; have a1 := K.1.c1; have a2 := K.1.c2; have a3 := K.1.c3; have a4 := K.1.c4; have a5 := K.1.c5; have f0 := K.2.1.f0; have f1 := K.2.1.f1; have f2 := K.2.1.f2; have f3 := K.2.1.f3; have f4 := K.2.1.f4; have f5 := K.2.1.f5)
      go_name_world W2 hW2
      have HB : Hid (Br W2 N 7 k (cleanN k n) lo hi 3 ∧ Fz W2 N ∧ Br W2 (N + 1) 0 false 0 0 0 0 ∧ Fz W2 (N + 1) ∧ Below N w W2) := by
        rw [← hW2]
        exact ⟨K.1.known _ _, K.2.1.two _ _ _ _, K.2.2.1.two (by omega) _ _ _ _, K.2.2.2.1.two _ _ _ _, two_below K.2.2.2.2 N _ _ (Nat.le_refl _) _ _⟩
      clear hW2 hK K HA a0 a1 a2 a3 a4 a5 f0 f1 f2 f3 f4 f5
      have a0 := HB.out.1.c0
      have a1 := HB.out.1.c1
      have a2 := HB.out.1.c2
      have a3 := HB.out.1.c3
      have a4 := HB.out.1.c4
      have a5 := HB.out.1.c5
      go_upto_region 9 with (go_at_call 15; refine (bel2 (nfix_any _ _ _)).mono ?_; rintro e wK ⟨rfl, hK⟩; clear a0 a1 a2 a3 a4 a5; have K := And.intro (HB.out.1.keep hK) (And.intro (HB.out.2.1.keep HB.out.1.lt hK) (And.intro (HB.out.2.2.1.keep hK) (And.intro (HB.out.2.2.2.1.keep HB.out.2.2.1.lt hK) (HB.out.2.2.2.2.trans (hK.mono (Nat.le_of_lt HB.out.1.lt)))))); have a0 := K.1.c0; have a1 := K.1.c1; have a2 := K.1.c2; have a3 := K.1.c3; have a4 := K.1.c4; have a5 := K.1.c5; have f0 := K.2.1.f0; have f1 := K.2.1.f1; have f2 := K.2.1.f2; have f3 := K.2.1.f3; have f4 := K.2.1.f4; have f5 := K.2.1.f5)
      go_name_world W3 hW3
      have HC : Hid (Br W3 N 7 k (cleanN k n) (min lo hi) (max lo hi) 3 ∧ Br W3 (N + 1) 0 false 0 0 0 0 ∧ Fz W3 (N + 1) ∧ Below N w W3) := by
        rw [← hW3]
        exact ⟨K.1.span _ _, K.2.2.1.two (by omega) _ _ _ _, K.2.2.2.1.two _ _ _ _, two_below K.2.2.2.2 N _ _ (Nat.le_refl _) _ _⟩
      clear hW3 hK K HB a0 a1 a2 a3 a4 a5 f0 f1 f2 f3 f4 f5
      have a0 := HC.out.1.c0
      have a1 := HC.out.1.c1
      have a2 := HC.out.1.c2
      have a3 := HC.out.1.c3
      have a4 := HC.out.1.c4
      have a5 := HC.out.1.c5
      have b0 := HC.out.2.1.c0
      have b1 := HC.out.2.1.c1
      have b2 := HC.out.2.1.c2
      have b3 := HC.out.2.1.c3
      have b4 := HC.out.2.1.c4
      have b5 := HC.out.2.1.c5
      have f0 := HC.out.2.2.1.f0
      have f1 := HC.out.2.2.1.f1
      have f2 := HC.out.2.2.1.f2
      have f3 := HC.out.2.2.1.f3
      have f4 := HC.out.2.2.1.f4
      have f5 := HC.out.2.2.1.f5
      have hB := HC.out.2.2.2
      go_wp2_with fail
      have zw := HC.out.2.1.wrote 7 k (cleanN k n) (min lo hi) (max lo hi) 3
      have hZ := st6_below HC.out.2.2.2 (N + 1) (Nat.le_succ _) (.int .i64 7) (.bool k) (.int .i64 (cleanN k n)) (.int .i64 (min lo hi)) (.int .i64 (max lo hi)) (.int .i64 3)
      clear HC hB e1 e2 d1 d2 a0 a1 a2 a3 a4 a5 b0 b1 b2 b3 b4 b5 f0 f1 f2 f3 f4 f5
      have a0 := zw.c0
      have a1 := zw.c1
      have a2 := zw.c2
      have a3 := zw.c3
      have a4 := zw.c4
      have a5 := zw.c5
      clear zw
      refine bodyPost_ret (by simp [results, Tryz.results4, go_sem, *]; try rfl) rfl ⟨?_, by rw [← HN.out]; exact hZ⟩
      rw [HQ.out] <;> rfl
    · have d1 : (up (low s) == 0) = true := by rw [show (0 : Int) = up 0 from rfl, up_beq, beq_iff_eq]; exact hs
      have d2 : (up (lp p) == 0) = false := by rw [show (0 : Int) = up 0 from rfl, up_beq, beq_eq_false_iff_ne]; exact hp
      have HQ : Hid (r = ⟨7, k, cleanN k n, min lo hi, max lo hi, lp p⟩) := by unfold Hid; rw [HR.out, if_pos hs, if_neg hp]
      clear hs hp HR
      go_enter Tryz.func4, Tryz.ntmps4
      go_upto_region 7 with fail
      go_name_world W hW
      have HA : Hid (Br W w.heap.size 7 k n lo hi (up (lp p)) ∧ Fz W w.heap.size ∧ Br W (w.heap.size + 1) 0 false 0 0 0 0 ∧ Fz W (w.heap.size + 1) ∧ Below w.heap.size w W) := by
        rw [← hW]
        refine ⟨⟨?_, ?_, ?_, ?_, ?_, ?_⟩, ⟨?_, ?_, ?_, ?_, ?_, ?_⟩, ⟨?_, ?_, ?_, ?_, ?_, ?_⟩, ⟨?_, ?_, ?_, ?_, ?_, ?_⟩, (by repeat (first | exact Below.refl _ _ | (refine Below.drew ?_) | (refine below_drewN ?_ _) | (refine Below.setCell ?_ (by first | omega | (simp; done) | (simp; omega)) _) | (refine Below.alloc ?_ (by first | omega | (simp; done) | (simp; omega)) _) | (refine Below.trans ?_ (Below.mono (by assumption) (by first | omega | (simp; done) | (simp; omega))))))⟩ <;> simp [go_sem]
      clear hW
      obtain ⟨N, hN⟩ : ∃ N, N = w.heap.size := ⟨_, rfl⟩
      rw [← hN] at HA ⊢
      have HN : Hid (N = w.heap.size) := hN
      clear hN
      have a0 := HA.out.1.c0
      have a1 := HA.out.1.c1
      have a2 := HA.out.1.c2
      have a3 := HA.out.1.c3
      have a4 := HA.out.1.c4
      have a5 := HA.out.1.c5
      go_upto_region 8 with (go_at_call 14; refine (kclean_any _ _ _).mono ?_; rintro e wK ⟨rfl, hK⟩; clear a0 a1 a2 a3 a4 a5; have K := And.intro (HA.out.1.keep hK) (And.intro (HA.out.2.1.keep HA.out.1.lt hK) (And.intro (HA.out.2.2.1.keep hK) (And.intro (HA.out.2.2.2.1.keep HA.out.2.2.1.lt hK) (HA.out.2.2.2.2.trans (hK.mono (Nat.le_of_lt HA.out.1.lt)))))); have a0 := K.1.c0; have a1 := K.1.c1; have a2 := K.1.c2; have a3 := K.1.c3; have a4 := K.1.c4; have a5 := K.1.c5; have f0 := K.2.1.f0; have f1 := K.2.1.f1; have f2 := K.2.1.f2; have f3 := K.2.1.f3; have f4 := K.2.1.f4; have f5 := K.2.1.f5)
      go_name_world W2 hW2
      have HB : Hid (Br W2 N 7 k (cleanN k n) lo hi (up (lp p)) ∧ Fz W2 N ∧ Br W2 (N + 1) 0 false 0 0 0 0 ∧ Fz W2 (N + 1) ∧ Below N w W2) := by
        rw [← hW2]
        exact ⟨K.1.known _ _, K.2.1.two _ _ _ _, K.2.2.1.two (by omega) _ _ _ _, K.2.2.2.1.two _ _ _ _, two_below K.2.2.2.2 N _ _ (Nat.le_refl _) _ _⟩
      clear hW2 hK K HA a0 a1 a2 a3 a4 a5 f0 f1 f2 f3 f4 f5
      have a0 := HB.out.1.c0
      have a1 := HB.out.1.c1
      have a2 := HB.out.1.c2
      have a3 := HB.out.1.c3
      have a4 := HB.out.1.c4
      have a5 := HB.out.1.c5
      go_upto_region 9 with (go_at_call 15; refine (bel2 (nfix_any _ _ _)).mono ?_; rintro e wK ⟨rfl, hK⟩; clear a0 a1 a2 a3 a4 a5; have K := And.intro (HB.out.1.keep hK) (And.intro (HB.out.2.1.keep HB.out.1.lt hK) (And.intro (HB.out.2.2.1.keep hK) (And.intro (HB.out.2.2.2.1.keep HB.out.2.2.1.lt hK) (HB.out.2.2.2.2.trans (hK.mono (Nat.le_of_lt HB.out.1.lt)))))); have a0 := K.1.c0; have a1 := K.1.c1; have a2 := K.1.c2; have a3 := K.1.c3; have a4 := K.1.c4; have a5 := K.1.c5; have f0 := K.2.1.f0; have f1 := K.2.1.f1; have f2 := K.2.1.f2; have f3 := K.2.1.f3; have f4 := K.2.1.f4; have f5 := K.2.1.f5)
      go_name_world W3 hW3
      have HC : Hid (Br W3 N 7 k (cleanN k n) (min lo hi) (max lo hi) (up (lp p)) ∧ Br W3 (N + 1) 0 false 0 0 0 0 ∧ Fz W3 (N + 1) ∧ Below N w W3) := by
        rw [← hW3]
        exact ⟨K.1.span _ _, K.2.2.1.two (by omega) _ _ _ _, K.2.2.2.1.two _ _ _ _, two_below K.2.2.2.2 N _ _ (Nat.le_refl _) _ _⟩
      clear hW3 hK K HB a0 a1 a2 a3 a4 a5 f0 f1 f2 f3 f4 f5
      have a0 := HC.out.1.c0
      have a1 := HC.out.1.c1
      have a2 := HC.out.1.c2
      have a3 := HC.out.1.c3
      have a4 := HC.out.1.c4
      have a5 := HC.out.1.c5
      have b0 := HC.out.2.1.c0
      have b1 := HC.out.2.1.c1
      have b2 := HC.out.2.1.c2
      have b3 := HC.out.2.1.c3
      have b4 := HC.out.2.1.c4
      have b5 := HC.out.2.1.c5
      have f0 := HC.out.2.2.1.f0
      have f1 := HC.out.2.2.1.f1
      have f2 := HC.out.2.2.1.f2
      have f3 := HC.out.2.2.1.f3
      have f4 := HC.out.2.2.1.f4
      have f5 := HC.out.2.2.1.f5
      have hB := HC.out.2.2.2
      go_wp2_with fail
      have zw := HC.out.2.1.wrote 7 k (cleanN k n) (min lo hi) (max lo hi) (up (lp p))
      have hZ := st6_below HC.out.2.2.2 (N + 1) (Nat.le_succ _) (.int .i64 7) (.bool k) (.int .i64 (cleanN k n)) (.int .i64 (min lo hi)) (.int .i64 (max lo hi)) (.int .i64 (up (lp p)))
      clear HC hB e1 e2 d1 d2 a0 a1 a2 a3 a4 a5 b0 b1 b2 b3 b4 b5 f0 f1 f2 f3 f4 f5
      have a0 := zw.c0
      have a1 := zw.c1
      have a2 := zw.c2
      have a3 := zw.c3
      have a4 := zw.c4
      have a5 := zw.c5
      clear zw
      refine bodyPost_ret (by simp [results, Tryz.results4, go_sem, *]; try rfl) rfl ⟨?_, by rw [← HN.out]; exact hZ⟩
      rw [HQ.out] <;> rfl
  · by_cases hp : lp p = 0
    · have d1 : (up (low s) == 0) = false := by rw [show (0 : Int) = up 0 from rfl, up_beq, beq_eq_false_iff_ne]; exact hs
      have d2 : (up (lp p) == 0) = true := by rw [show (0 : Int) = up 0 from rfl, up_beq, beq_iff_eq]; exact hp
      have HQ : Hid (r = ⟨low s, k, cleanN k n, min lo hi, max lo hi, 3⟩) := by unfold Hid; rw [HR.out, if_neg hs, if_pos hp]
      clear hs hp HR
      go_enter Tryz.func4, Tryz.ntmps4
      go_upto_region 7 with fail
      go_name_world W hW
      have HA : Hid (Br W w.heap.size (up (low s)) k n lo hi 3 ∧ Fz W w.heap.size ∧ Br W (w.heap.size + 1) 0 false 0 0 0 0 ∧ Fz W (w.heap.size + 1) ∧ Below w.heap.size w W) := by
        rw [← hW]
        refine ⟨⟨?_, ?_, ?_, ?_, ?_, ?_⟩, ⟨?_, ?_, ?_, ?_, ?_, ?_⟩, ⟨?_, ?_, ?_, ?_, ?_, ?_⟩, ⟨?_, ?_, ?_, ?_, ?_, ?_⟩, (by repeat (first | exact Below.refl _ _ | (refine Below.drew ?_) | (refine below_drewN ?_ _) | (refine Below.setCell ?_ (by first | omega | (simp; done) | (simp; omega)) _) | (refine Below.alloc ?_ (by first | omega | (simp; done) | (simp; omega)) _) | (refine Below.trans ?_ (Below.mono (by assumption) (by first | omega | (simp; done) | (simp; omega))))))⟩ <;> simp [go_sem]
      clear hW
      obtain ⟨N, hN⟩ : ∃ N, N = w.heap.size := ⟨_, rfl⟩
      rw [← hN] at HA ⊢
      have HN : Hid (N = w.heap.size) := hN
      clear hN
      have a0 := HA.out.1.c0
      have a1 := HA.out.1.c1
      have a2 := HA.out.1.c2
      have a3 := HA.out.1.c3
      have a4 := HA.out.1.c4
      have a5 := HA.out.1.c5
      go_upto_region 8 with (go_at_call 14; refine (kclean_any _ _ _).mono ?_; rintro e wK ⟨rfl, hK⟩; clear a0 a1 a2 a3 a4 a5; have K := And.intro (HA.out.1.keep hK) (And.intro (HA.out.2.1.keep HA.out.1.lt hK) (And.intro (HA.out.2.2.1.keep hK) (And.intro (HA.out.2.2.2.1.keep HA.out.2.2.1.lt hK) (HA.out.2.2.2.2.trans (hK.mono (Nat.le_of_lt HA.out.1.lt)))))); have a0 := K.1.c0; have a1 := K.1.c1; have a2 := K.1.c2; have a3 := K.1.c3; have a4 := K.1.c4; have a5 := K.1.c5; have f0 := K.2.1.f0; have f1 := K.2.1.f1; have f2 := K.2.1.f2; have f3 := K.2.1.f3; have f4 := K.2.1.f4; have f5 := K.2.1.f5)
      go_name_world W2 hW2
      have HB : Hid (Br W2 N (up (low s)) k (cleanN k n) lo hi 3 ∧ Fz W2 N ∧ Br W2 (N + 1) 0 false 0 0 0 0 ∧ Fz W2 (N + 1) ∧ Below N w W2) := by
        rw [← hW2]
        exact ⟨K.1.known _ _, K.2.1.two _ _ _ _, K.2.2.1.two (by omega) _ _ _ _, K.2.2.2.1.two _ _ _ _, two_below K.2.2.2.2 N _ _ (Nat.le_refl _) _ _⟩
      clear hW2 hK K HA a0 a1 a2 a3 a4 a5 f0 f1 f2 f3 f4 f5
      have a0 := HB.out.1.c0
      have a1 := HB.out.1.c1
      have a2 := HB.out.1.c2
      have a3 := HB.out.1.c3
      have a4 := HB.out.1.c4
      have a5 := HB.out.1.c5
      go_upto_region 9 with (go_at_call 15; refine (bel2 (nfix_any _ _ _)).mono ?_; rintro e wK ⟨rfl, hK⟩; clear a0 a1 a2 a3 a4 a5; have K := And.intro (HB.out.1.keep hK) (And.intro (HB.out.2.1.keep HB.out.1.lt hK) (And.intro (HB.out.2.2.1.keep hK) (And.intro (HB.out.2.2.2.1.keep HB.out.2.2.1.lt hK) (HB.out.2.2.2.2.trans (hK.mono (Nat.le_of_lt HB.out.1.lt)))))); have a0 := K.1.c0; have a1 := K.1.c1; have a2 := K.1.c2; have a3 := K.1.c3; have a4 := K.1.c4; have a5 := K.1.c5; have f0 := K.2.1.f0; have f1 := K.2.1.f1; have f2 := K.2.1.f2; have f3 := K.2.1.f3; have f4 := K.2.1.f4; have f5 := K.2.1.f5)
      go_name_world W3 hW3
      have HC : Hid (Br W3 N (up (low s)) k (cleanN k n) (min lo hi) (max lo hi) 3 ∧ Br W3 (N + 1) 0 false 0 0 0 0 ∧ Fz W3 (N + 1) ∧ Below N w W3) := by
        rw [← hW3]
        exact ⟨K.1.span _ _, K.2.2.1.two (by omega) _ _ _ _, K.2.2.2.1.two _ _ _ _, two_below K.2.2.2.2 N _ _ (Nat.le_refl _) _ _⟩
      clear hW3 hK K HB a0 a1 a2 a3 a4 a5 f0 f1 f2 f3 f4 f5
      have a0 := HC.out.1.c0
      have a1 := HC.out.1.c1
      have a2 := HC.out.1.c2
      have a3 := HC.out.1.c3
      have a4 := HC.out.1.c4
      have a5 := HC.out.1.c5
      have b0 := HC.out.2.1.c0
      have b1 := HC.out.2.1.c1
      have b2 := HC.out.2.1.c2
      have b3 := HC.out.2.1.c3
      have b4 := HC.out.2.1.c4
      have b5 := HC.out.2.1.c5
      have f0 := HC.out.2.2.1.f0
      have f1 := HC.out.2.2.1.f1
      have f2 := HC.out.2.2.1.f2
      have f3 := HC.out.2.2.1.f3
      have f4 := HC.out.2.2.1.f4
      have f5 := HC.out.2.2.1.f5
      have hB := HC.out.2.2.2
      go_wp2_with fail
      have zw := HC.out.2.1.wrote (up (low s)) k (cleanN k n) (min lo hi) (max lo hi) 3
      have hZ := st6_below HC.out.2.2.2 (N + 1) (Nat.le_succ _) (.int .i64 (up (low s))) (.bool k) (.int .i64 (cleanN k n)) (.int .i64 (min lo hi)) (.int .i64 (max lo hi)) (.int .i64 3)
      clear HC hB e1 e2 d1 d2 a0 a1 a2 a3 a4 a5 b0 b1 b2 b3 b4 b5 f0 f1 f2 f3 f4 f5
      have a0 := zw.c0
      have a1 := zw.c1
      have a2 := zw.c2
      have a3 := zw.c3
      have a4 := zw.c4
      have a5 := zw.c5
      clear zw
      refine bodyPost_ret (by simp [results, Tryz.results4, go_sem, *]; try rfl) rfl ⟨?_, by rw [← HN.out]; exact hZ⟩
      rw [HQ.out] <;> rfl
    · have d1 : (up (low s) == 0) = false := by rw [show (0 : Int) = up 0 from rfl, up_beq, beq_eq_false_iff_ne]; exact hs
      have d2 : (up (lp p) == 0) = false := by rw [show (0 : Int) = up 0 from rfl, up_beq, beq_eq_false_iff_ne]; exact hp
      have HQ : Hid (r = ⟨low s, k, cleanN k n, min lo hi, max lo hi, lp p⟩) := by unfold Hid; rw [HR.out, if_neg hs, if_neg hp]
      clear hs hp HR
      go_enter Tryz.func4, Tryz.ntmps4
      go_upto_region 7 with fail
      go_name_world W hW
      have HA : Hid (Br W w.heap.size (up (low s)) k n lo hi (up (lp p)) ∧ Fz W w.heap.size ∧ Br W (w.heap.size + 1) 0 false 0 0 0 0 ∧ Fz W (w.heap.size + 1) ∧ Below w.heap.size w W) := by
        rw [← hW]
        refine ⟨⟨?_, ?_, ?_, ?_, ?_, ?_⟩, ⟨?_, ?_, ?_, ?_, ?_, ?_⟩, ⟨?_, ?_, ?_, ?_, ?_, ?_⟩, ⟨?_, ?_, ?_, ?_, ?_, ?_⟩, (by repeat (first | exact Below.refl _ _ | (refine Below.drew ?_) | (refine below_drewN ?_ _) | (refine Below.setCell ?_ (by first | omega | (simp; done) | (simp; omega)) _) | (refine Below.alloc ?_ (by first | omega | (simp; done) | (simp; omega)) _) | (refine Below.trans ?_ (Below.mono (by assumption) (by first | omega | (simp; done) | (simp; omega))))))⟩ <;> simp [go_sem]
      clear hW
      obtain ⟨N, hN⟩ : ∃ N, N = w.heap.size := ⟨_, rfl⟩
      rw [← hN] at HA ⊢
      have HN : Hid (N = w.heap.size) := hN
      clear hN
      have a0 := HA.out.1.c0
      have a1 := HA.out.1.c1
      have a2 := HA.out.1.c2
      have a3 := HA.out.1.c3
      have a4 := HA.out.1.c4
      have a5 := HA.out.1.c5
      go_upto_region 8 with (go_at_call 14; refine (kclean_any _ _ _).mono ?_; rintro e wK ⟨rfl, hK⟩; clear a0 a1 a2 a3 a4 a5; have K := And.intro (HA.out.1.keep hK) (And.intro (HA.out.2.1.keep HA.out.1.lt hK) (And.intro (HA.out.2.2.1.keep hK) (And.intro (HA.out.2.2.2.1.keep HA.out.2.2.1.lt hK) (HA.out.2.2.2.2.trans (hK.mono (Nat.le_of_lt HA.out.1.lt)))))); have a0 := K.1.c0; have a1 := K.1.c1; have a2 := K.1.c2; have a3 := K.1.c3; have a4 := K.1.c4; have a5 := K.1.c5; have f0 := K.2.1.f0; have f1 := K.2.1.f1; have f2 := K.2.1.f2; have f3 := K.2.1.f3; have f4 := K.2.1.f4; have f5 := K.2.1.f5)
      go_name_world W2 hW2
      have HB : Hid (Br W2 N (up (low s)) k (cleanN k n) lo hi (up (lp p)) ∧ Fz W2 N ∧ Br W2 (N + 1) 0 false 0 0 0 0 ∧ Fz W2 (N + 1) ∧ Below N w W2) := by
        rw [← hW2]
        exact ⟨K.1.known _ _, K.2.1.two _ _ _ _, K.2.2.1.two (by omega) _ _ _ _, K.2.2.2.1.two _ _ _ _, two_below K.2.2.2.2 N _ _ (Nat.le_refl _) _ _⟩
      clear hW2 hK K HA a0 a1 a2 a3 a4 a5 f0 f1 f2 f3 f4 f5
      have a0 := HB.out.1.c0
      have a1 := HB.out.1.c1
      have a2 := HB.out.1.c2
      have a3 := HB.out.1.c3
      have a4 := HB.out.1.c4
      have a5 := HB.out.1.c5
      go_upto_region 9 with (go_at_call 15; refine (bel2 (nfix_any _ _ _)).mono ?_; rintro e wK ⟨rfl, hK⟩; clear a0 a1 a2 a3 a4 a5; have K := And.intro (HB.out.1.keep hK) (And.intro (HB.out.2.1.keep HB.out.1.lt hK) (And.intro (HB.out.2.2.1.keep hK) (And.intro (HB.out.2.2.2.1.keep HB.out.2.2.1.lt hK) (HB.out.2.2.2.2.trans (hK.mono (Nat.le_of_lt HB.out.1.lt)))))); have a0 := K.1.c0; have a1 := K.1.c1; have a2 := K.1.c2; have a3 := K.1.c3; have a4 := K.1.c4; have a5 := K.1.c5; have f0 := K.2.1.f0; have f1 := K.2.1.f1; have f2 := K.2.1.f2; have f3 := K.2.1.f3; have f4 := K.2.1.f4; have f5 := K.2.1.f5)
      go_name_world W3 hW3
      have HC : Hid (Br W3 N (up (low s)) k (cleanN k n) (min lo hi) (max lo hi) (up (lp p)) ∧ Br W3 (N + 1) 0 false 0 0 0 0 ∧ Fz W3 (N + 1) ∧ Below N w W3) := by
        rw [← hW3]
        exact ⟨K.1.span _ _, K.2.2.1.two (by omega) _ _ _ _, K.2.2.2.1.two _ _ _ _, two_below K.2.2.2.2 N _ _ (Nat.le_refl _) _ _⟩
      clear hW3 hK K HB a0 a1 a2 a3 a4 a5 f0 f1 f2 f3 f4 f5
      have a0 := HC.out.1.c0
      have a1 := HC.out.1.c1
      have a2 := HC.out.1.c2
      have a3 := HC.out.1.c3
      have a4 := HC.out.1.c4
      have a5 := HC.out.1.c5
      have b0 := HC.out.2.1.c0
      have b1 := HC.out.2.1.c1
      have b2 := HC.out.2.1.c2
      have b3 := HC.out.2.1.c3
      have b4 := HC.out.2.1.c4
      have b5 := HC.out.2.1.c5
      have f0 := HC.out.2.2.1.f0
      have f1 := HC.out.2.2.1.f1
      have f2 := HC.out.2.2.1.f2
      have f3 := HC.out.2.2.1.f3
      have f4 := HC.out.2.2.1.f4
      have f5 := HC.out.2.2.1.f5
      have hB := HC.out.2.2.2
      go_wp2_with fail
      have zw := HC.out.2.1.wrote (up (low s)) k (cleanN k n) (min lo hi) (max lo hi) (up (lp p))
      have hZ := st6_below HC.out.2.2.2 (N + 1) (Nat.le_succ _) (.int .i64 (up (low s))) (.bool k) (.int .i64 (cleanN k n)) (.int .i64 (min lo hi)) (.int .i64 (max lo hi)) (.int .i64 (up (lp p)))
      clear HC hB e1 e2 d1 d2 a0 a1 a2 a3 a4 a5 b0 b1 b2 b3 b4 b5 f0 f1 f2 f3 f4 f5
      have a0 := zw.c0
      have a1 := zw.c1
      have a2 := zw.c2
      have a3 := zw.c3
      have a4 := zw.c4
      have a5 := zw.c5
      clear zw
      refine bodyPost_ret (by simp [results, Tryz.results4, go_sem, *]; try rfl) rfl ⟨?_, by rw [← HN.out]; exact hZ⟩
      rw [HQ.out] <;> rfl
end Go.Proofs.YthiacdbjlkpfgaaGreatDoor
