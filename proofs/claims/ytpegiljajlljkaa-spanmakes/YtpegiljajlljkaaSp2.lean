import Derived.Test.YtpegiljajlljkaaSh
namespace Go.Proofs.Ytpegiljajlljkaa
open Go.RowKit
set_option maxRecDepth 100000 in
set_option maxHeartbeats 16000000 in
theorem quo_any (a b : Int × Int) (w : World) (ha : Sp a) (hb : Sp b) (h0 : 0 < b.1 ∨ b.2 < 0) (hm : ¬ (a.1 = -9223372036854775808 ∧ b.1 ≤ -1 ∧ -1 ≤ b.2)) : Calls Try.prog 58 #[.agg #[.int .i64 a.1, .int .i64 a.2], .agg #[.int .i64 b.1, .int .i64 b.2]] w fun e w' => e = .returned (.agg #[.int .i64 (quoP a b).1, .int .i64 (quoP a b).2]) ∧ Below w.heap.size w w' := by
  have i1 : i64 a.1 := by unfold Sp at ha; unfold i64; omega
  have i2 : i64 a.2 := by unfold Sp at ha; unfold i64; omega
  have i3 : i64 b.1 := by unfold Sp at hb; unfold i64; omega
  have i4 : i64 b.2 := by unfold Sp at hb; unfold i64; omega
  have n3 : b.1 ≠ 0 := by unfold Sp at hb; omega
  have n4 : b.2 ≠ 0 := by unfold Sp at hb; omega
  have HB : Hid (quoP a b = (lst (a.1.tdiv b.1) [(a.1.tdiv b.2), (a.2.tdiv b.1), (a.2.tdiv b.2)], grt (a.1.tdiv b.1) [(a.1.tdiv b.2), (a.2.tdiv b.1), (a.2.tdiv b.2)])) := by
    unfold Hid quoP mn mx
    simp only [lst, grt, Prod.mk.injEq]
    omega
  have q00 : (arith 7 a.1 b.1).1 = (a.1.tdiv b.1) := by
    have e := tdiv_fit a.1 b.1 i1 n3 (by unfold Sp at ha hb; omega)
    unfold arith
    simp only [if_neg n3, if_pos, Int.reduceEq, if_false]
    exact wrap_fit _ e.1 e.2
  have q01 : (arith 7 a.1 b.2).1 = (a.1.tdiv b.2) := by
    have e := tdiv_fit a.1 b.2 i1 n4 (by unfold Sp at ha hb; omega)
    unfold arith
    simp only [if_neg n4, if_pos, Int.reduceEq, if_false]
    exact wrap_fit _ e.1 e.2
  have q10 : (arith 7 a.2 b.1).1 = (a.2.tdiv b.1) := by
    have e := tdiv_fit a.2 b.1 i2 n3 (by unfold Sp at ha hb; omega)
    unfold arith
    simp only [if_neg n3, if_pos, Int.reduceEq, if_false]
    exact wrap_fit _ e.1 e.2
  have q11 : (arith 7 a.2 b.2).1 = (a.2.tdiv b.2) := by
    have e := tdiv_fit a.2 b.2 i2 n4 (by unfold Sp at ha hb; omega)
    unfold arith
    simp only [if_neg n4, if_pos, Int.reduceEq, if_false]
    exact wrap_fit _ e.1 e.2
  clear ha hb h0 hm
  have X0 := idx0
  have X1 := idx1
  have S0 : Hid (∀ w0 : World, St w0 w0 (.slice none 0 0) []) := St.start
  go_enter Try.func58, Try.ntmps58
  go_wp2_with fail
  obtain ⟨w3, hw3⟩ : ∃ w3, w3 = ((w.alloc (.cells #[.int .i64 a.1, .int .i64 a.2] 25)).alloc (.cells #[.int .i64 b.1, .int .i64 b.2] 25)).alloc (.cells #[.int .i64 0, .int .i64 0] 25) := ⟨_, rfl⟩
  rw [← hw3]
  have z3 : w.heap.size + 1 + 1 < w3.heap.size := by rw [hw3]; simp
  have cB0 : w3.cell? ⟨w.heap.size + 1, 0, none⟩ = some (.int .i64 b.1) := by subst hw3; simp [go_sem]
  have cB1 : w3.cell? ⟨w.heap.size + 1, 1, none⟩ = some (.int .i64 b.2) := by subst hw3; simp [go_sem]
  have cR0 : w3.cell? ⟨w.heap.size + 1 + 1, 0, none⟩ = some (.int .i64 0) := by subst hw3; simp [go_sem]
  have cR1 : w3.cell? ⟨w.heap.size + 1 + 1, 1, none⟩ = some (.int .i64 0) := by subst hw3; simp [go_sem]
  have cF0 : w3.frozen? ⟨w.heap.size + 1 + 1, 0, none⟩ = false := by subst hw3; simp [go_sem]
  have cF1 : w3.frozen? ⟨w.heap.size + 1 + 1, 1, none⟩ = false := by subst hw3; simp [go_sem]
  have W3 : Hid (Below w.heap.size w w3) := by unfold Hid; rw [hw3]; exact (by repeat (first | exact Below.refl _ _ | (refine Below.drew ?_) | (refine below_drewN ?_ _) | (refine Below.setCell ?_ (by first | omega | (simp; done) | (simp; omega)) _) | (refine Below.alloc ?_ (by first | omega | (simp; done) | (simp; omega)) _) | (refine Below.trans ?_ (Below.mono (by assumption) (by first | omega | (simp; done) | (simp; omega))))))
  clear hw3
  have KB : ∀ (wr : World) (v : Value) (ps : List Int), Hid (St w3 wr v ps) → (∀ n o, n < w3.heap.size → wr.cell? ⟨n, o, none⟩ = w3.cell? ⟨n, o, none⟩) ∧ (∀ n o, n < w3.heap.size → wr.frozen? ⟨n, o, none⟩ = w3.frozen? ⟨n, o, none⟩) ∧ w3.heap.size ≤ wr.heap.size := fun wr v ps h => ⟨(bcell h.out.bel).1, (bcell h.out.bel).2, h.out.bel.size⟩
  generalize hR : w.heap.size + 1 + 1 = R at *
  generalize hBq : w.heap.size + 1 = Bq at *
  have zB : Bq < R := by omega
  have rb : w.heap.size ≤ R := by omega
  clear hR hBq
  go_loopw [5, 17] (fun sl ix wr => (ix = .int .i64 0 ∧ Hid (St w3 wr sl [])) ∨ (ix = .int .i64 1 ∧ Hid (St w3 wr sl [(a.1.tdiv b.1), (a.1.tdiv b.2)])) ∨ (ix = .int .i64 2 ∧ Hid (St w3 wr sl [(a.1.tdiv b.1), (a.1.tdiv b.2), (a.2.tdiv b.1), (a.2.tdiv b.2)]))) (fun _ i _ => 2 - (intOf i).toNat)
  case atStart => exact Or.inl ⟨rfl, S0.out w3⟩
  case round =>
    clear S0
    rcases hrel with ⟨rfl, hS⟩ | ⟨rfl, hS⟩ | ⟨rfl, hS⟩
    · obtain ⟨a1, c1, rfl⟩ := (hS.out).slice
      obtain ⟨hc, hf, hz⟩ := KB _ _ _ (hS.out)
      have dB0 := (hc Bq 0 (by omega)).trans cB0
      have dB1 := (hc Bq 1 (by omega)).trans cB1
      have dR0 := (hc R 0 z3).trans cR0
      have dR1 := (hc R 1 z3).trans cR1
      have dF0 := (hf R 0 z3).trans cF0
      have dF1 := (hf R 1 z3).trans cF1
      have zR : R < wr.heap.size := by omega
      have hWr : Below w.heap.size w wr := W3.out.trans ((hS.out).bel.mono W3.out.size)
      clear hc hf
      go_wp2_with fail
      have hS1 := hS
      clear hS zR dR0 dR1 dF0 dF1 dB0 dB1 hWr hz
      go_loopw [5, 25] (fun sl ix wr => (ix = .int .i64 0 ∧ Hid (St w3 wr sl [])) ∨ (ix = .int .i64 1 ∧ Hid (St w3 wr sl [(a.1.tdiv b.1)])) ∨ (ix = .int .i64 2 ∧ Hid (St w3 wr sl [(a.1.tdiv b.1), (a.1.tdiv b.2)]))) (fun _ i _ => 2 - (intOf i).toNat)
      case atStart => exact Or.inl ⟨rfl, hS1⟩
      case round =>
        clear hS1
        rcases hrel with ⟨rfl, hS⟩ | ⟨rfl, hS⟩ | ⟨rfl, hS⟩
        · obtain ⟨a1, c1, rfl⟩ := (hS.out).slice
          obtain ⟨hc, hf, hz⟩ := KB _ _ _ (hS.out)
          have dB0 := (hc Bq 0 (by omega)).trans cB0
          have dB1 := (hc Bq 1 (by omega)).trans cB1
          have dR0 := (hc R 0 z3).trans cR0
          have dR1 := (hc R 1 z3).trans cR1
          have dF0 := (hf R 0 z3).trans cF0
          have dF1 := (hf R 1 z3).trans cF1
          have zR : R < wr.heap.size := by omega
          have hWr : Below w.heap.size w wr := W3.out.trans ((hS.out).bel.mono W3.out.size)
          clear hc hf
          go_wp2_with (first | (go_at_call 63; refine (arith_vm _ _ _ _ (by assumption) (by assumption)).mono ?_; rintro e w1 ⟨rfl, rfl⟩) | (at_builtin; refine wpList_app1 w3 _ rfl (.tmp 34) (.tmp 36) rfl _ [] (a.1.tdiv b.1) hS.out rfl rfl (Nat.le_of_ble_eq_true rfl) ?_; intro a2 c2 w2 hS2; replace hS2 := (hide hS2)))
          go_round
          case rel => exact Or.inr (Or.inl ⟨rfl, hS2.out⟩)
          case measure => simp [intOf]
        · obtain ⟨a1, c1, rfl⟩ := (hS.out).slice
          obtain ⟨hc, hf, hz⟩ := KB _ _ _ (hS.out)
          have dB0 := (hc Bq 0 (by omega)).trans cB0
          have dB1 := (hc Bq 1 (by omega)).trans cB1
          have dR0 := (hc R 0 z3).trans cR0
          have dR1 := (hc R 1 z3).trans cR1
          have dF0 := (hf R 0 z3).trans cF0
          have dF1 := (hf R 1 z3).trans cF1
          have zR : R < wr.heap.size := by omega
          have hWr : Below w.heap.size w wr := W3.out.trans ((hS.out).bel.mono W3.out.size)
          clear hc hf
          go_wp2_with (first | (go_at_call 63; refine (arith_vm _ _ _ _ (by assumption) (by assumption)).mono ?_; rintro e w1 ⟨rfl, rfl⟩) | (at_builtin; refine wpList_app1 w3 _ rfl (.tmp 34) (.tmp 36) rfl _ [(a.1.tdiv b.1)] (a.1.tdiv b.2) hS.out rfl rfl (Nat.le_of_ble_eq_true rfl) ?_; intro a2 c2 w2 hS2; replace hS2 := (hide hS2)))
          go_round
          case rel => exact Or.inr (Or.inr ⟨rfl, hS2.out⟩)
          case measure => simp [intOf]
        · obtain ⟨a1, c1, rfl⟩ := (hS.out).slice
          go_wp2_with fail
          go_round
          case rel => exact Or.inr (Or.inl ⟨rfl, hS⟩)
          case measure => simp [intOf]
    · obtain ⟨a1, c1, rfl⟩ := (hS.out).slice
      obtain ⟨hc, hf, hz⟩ := KB _ _ _ (hS.out)
      have dB0 := (hc Bq 0 (by omega)).trans cB0
      have dB1 := (hc Bq 1 (by omega)).trans cB1
      have dR0 := (hc R 0 z3).trans cR0
      have dR1 := (hc R 1 z3).trans cR1
      have dF0 := (hf R 0 z3).trans cF0
      have dF1 := (hf R 1 z3).trans cF1
      have zR : R < wr.heap.size := by omega
      have hWr : Below w.heap.size w wr := W3.out.trans ((hS.out).bel.mono W3.out.size)
      clear hc hf
      go_wp2_with fail
      have hS1 := hS
      clear hS zR dR0 dR1 dF0 dF1 dB0 dB1 hWr hz
      go_loopw [5, 25] (fun sl ix wr => (ix = .int .i64 0 ∧ Hid (St w3 wr sl [(a.1.tdiv b.1), (a.1.tdiv b.2)])) ∨ (ix = .int .i64 1 ∧ Hid (St w3 wr sl [(a.1.tdiv b.1), (a.1.tdiv b.2), (a.2.tdiv b.1)])) ∨ (ix = .int .i64 2 ∧ Hid (St w3 wr sl [(a.1.tdiv b.1), (a.1.tdiv b.2), (a.2.tdiv b.1), (a.2.tdiv b.2)]))) (fun _ i _ => 2 - (intOf i).toNat)
      case atStart => exact Or.inl ⟨rfl, hS1⟩
      case round =>
        clear hS1
        rcases hrel with ⟨rfl, hS⟩ | ⟨rfl, hS⟩ | ⟨rfl, hS⟩
        · obtain ⟨a1, c1, rfl⟩ := (hS.out).slice
          obtain ⟨hc, hf, hz⟩ := KB _ _ _ (hS.out)
          have dB0 := (hc Bq 0 (by omega)).trans cB0
          have dB1 := (hc Bq 1 (by omega)).trans cB1
          have dR0 := (hc R 0 z3).trans cR0
          have dR1 := (hc R 1 z3).trans cR1
          have dF0 := (hf R 0 z3).trans cF0
          have dF1 := (hf R 1 z3).trans cF1
          have zR : R < wr.heap.size := by omega
          have hWr : Below w.heap.size w wr := W3.out.trans ((hS.out).bel.mono W3.out.size)
          clear hc hf
          go_wp2_with (first | (go_at_call 63; refine (arith_vm _ _ _ _ (by assumption) (by assumption)).mono ?_; rintro e w1 ⟨rfl, rfl⟩) | (at_builtin; refine wpList_app1 w3 _ rfl (.tmp 34) (.tmp 36) rfl _ [(a.1.tdiv b.1), (a.1.tdiv b.2)] (a.2.tdiv b.1) hS.out rfl rfl (Nat.le_of_ble_eq_true rfl) ?_; intro a2 c2 w2 hS2; replace hS2 := (hide hS2)))
          go_round
          case rel => exact Or.inr (Or.inl ⟨rfl, hS2.out⟩)
          case measure => simp [intOf]
        · obtain ⟨a1, c1, rfl⟩ := (hS.out).slice
          obtain ⟨hc, hf, hz⟩ := KB _ _ _ (hS.out)
          have dB0 := (hc Bq 0 (by omega)).trans cB0
          have dB1 := (hc Bq 1 (by omega)).trans cB1
          have dR0 := (hc R 0 z3).trans cR0
          have dR1 := (hc R 1 z3).trans cR1
          have dF0 := (hf R 0 z3).trans cF0
          have dF1 := (hf R 1 z3).trans cF1
          have zR : R < wr.heap.size := by omega
          have hWr : Below w.heap.size w wr := W3.out.trans ((hS.out).bel.mono W3.out.size)
          clear hc hf
          go_wp2_with (first | (go_at_call 63; refine (arith_vm _ _ _ _ (by assumption) (by assumption)).mono ?_; rintro e w1 ⟨rfl, rfl⟩) | (at_builtin; refine wpList_app1 w3 _ rfl (.tmp 34) (.tmp 36) rfl _ [(a.1.tdiv b.1), (a.1.tdiv b.2), (a.2.tdiv b.1)] (a.2.tdiv b.2) hS.out rfl rfl (Nat.le_of_ble_eq_true rfl) ?_; intro a2 c2 w2 hS2; replace hS2 := (hide hS2)))
          go_round
          case rel => exact Or.inr (Or.inr ⟨rfl, hS2.out⟩)
          case measure => simp [intOf]
        · obtain ⟨a1, c1, rfl⟩ := (hS.out).slice
          go_wp2_with fail
          go_round
          case rel => exact Or.inr (Or.inr ⟨rfl, hS⟩)
          case measure => simp [intOf]
    · obtain ⟨a1, c1, rfl⟩ := (hS.out).slice
      obtain ⟨hc, hf, hz⟩ := KB _ _ _ (hS.out)
      have dB0 := (hc Bq 0 (by omega)).trans cB0
      have dB1 := (hc Bq 1 (by omega)).trans cB1
      have dR0 := (hc R 0 z3).trans cR0
      have dR1 := (hc R 1 z3).trans cR1
      have dF0 := (hf R 0 z3).trans cF0
      have dF1 := (hf R 1 z3).trans cF1
      have zR : R < wr.heap.size := by omega
      have hWr : Below w.heap.size w wr := W3.out.trans ((hS.out).bel.mono W3.out.size)
      clear hc hf
      obtain ⟨g, rfl, hrow⟩ := St.row (n := (a.1.tdiv b.1)) (ps := [(a.1.tdiv b.2), (a.2.tdiv b.1), (a.2.tdiv b.2)]) (hS.out)
      have HR : Hid (RowN wr g [(a.1.tdiv b.1), (a.1.tdiv b.2), (a.2.tdiv b.1), (a.2.tdiv b.2)]) := hrow
      clear hrow
      have HC := HB.out
      replace HC := (hide HC)
      have M1 := fun w1 h => min_any g c1 (a.1.tdiv b.1) [(a.1.tdiv b.2), (a.2.tdiv b.1), (a.2.tdiv b.2)] w1 h (Nat.le_of_ble_eq_true rfl)
      have M2 := fun w1 h => max_any g c1 (a.1.tdiv b.1) [(a.1.tdiv b.2), (a.2.tdiv b.1), (a.2.tdiv b.2)] w1 h (Nat.le_of_ble_eq_true rfl)
      generalize lst (a.1.tdiv b.1) [(a.1.tdiv b.2), (a.2.tdiv b.1), (a.2.tdiv b.2)] = lo at *
      generalize grt (a.1.tdiv b.1) [(a.1.tdiv b.2), (a.2.tdiv b.1), (a.2.tdiv b.2)] = hi at *
      go_wp2_with (first | (go_at_call 56; refine (M1 _ HR.out).mono ?_; rintro e w1 ⟨rfl, rfl⟩) | (go_at_call 57; refine (M2 _ HR.out).mono ?_; rintro e w1 ⟨rfl, rfl⟩))
      refine bodyPost_ret (by simp [results, Try.results58, go_sem, *]; try rfl) rfl ⟨?_, (by repeat (first | assumption | (refine Below.drew ?_) | (refine below_drewN ?_ _) | (refine Below.setCell ?_ (by first | omega | (simp; omega)) _) | (refine Below.alloc ?_ (by first | omega | (simp; omega)) _)))⟩
      rw [HC.out]
end Go.Proofs.Ytpegiljajlljkaa
