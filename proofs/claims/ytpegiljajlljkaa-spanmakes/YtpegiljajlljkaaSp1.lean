import Derived.Test.YtpegiljajlljkaaSh
namespace Go.Proofs.Ytpegiljajlljkaa
open Go.RowKit
set_option maxRecDepth 100000 in
set_option maxHeartbeats 16000000 in
theorem products_any (a b : Int × Int) (w : World) (ha : Sp a) (hb : Sp b) : Calls Try.prog 38 #[.agg #[.int .i64 a.1, .int .i64 a.2], .agg #[.int .i64 b.1, .int .i64 b.2]] w fun e w' => e = .returned (.agg #[.int .i64 (prodsP a b).1, .int .i64 (prodsP a b).2]) ∧ Below w.heap.size w w' := by
  have i1 : i64 a.1 := by unfold Sp at ha; unfold i64; omega
  have i2 : i64 a.2 := by unfold Sp at ha; unfold i64; omega
  have i3 : i64 b.1 := by unfold Sp at hb; unfold i64; omega
  have i4 : i64 b.2 := by unfold Sp at hb; unfold i64; omega
  have HA : Hid (¬ (fit (a.1 * b.1) = true ∧ fit (a.1 * b.2) = true ∧ fit (a.2 * b.1) = true ∧ fit (a.2 * b.2) = true) → prodsP a b = (-9223372036854775808, 9223372036854775807)) := fun h => by
    unfold prodsP
    rw [if_neg (by simp only [Bool.and_eq_true]; exact fun k => h ⟨k.1.1.1, k.1.1.2, k.1.2, k.2⟩)]
    rfl
  have HB : Hid ((fit (a.1 * b.1) = true ∧ fit (a.1 * b.2) = true ∧ fit (a.2 * b.1) = true ∧ fit (a.2 * b.2) = true) → prodsP a b = (lst (a.1 * b.1) [(a.1 * b.2), (a.2 * b.1), (a.2 * b.2)], grt (a.1 * b.1) [(a.1 * b.2), (a.2 * b.1), (a.2 * b.2)])) := fun h => by
    unfold prodsP
    rw [if_pos (by simp only [Bool.and_eq_true]; exact ⟨⟨⟨h.1, h.2.1⟩, h.2.2.1⟩, h.2.2.2⟩)]
    unfold mn mx
    simp only [lst, grt, Prod.mk.injEq]
    omega
  clear ha hb
  have X0 := idx0
  have X1 := idx1
  have S0 : Hid (∀ w0 : World, St w0 w0 (.slice none 0 0) []) := St.start
  go_enter Try.func38, Try.ntmps38
  go_wp2_with fail
  obtain ⟨w3, hw3⟩ : ∃ w3, w3 = ((w.alloc (.cells #[.int .i64 a.1, .int .i64 a.2] 25)).alloc (.cells #[.int .i64 b.1, .int .i64 b.2] 25)).alloc (.cells #[.int .i64 0, .int .i64 0] 25) := ⟨_, rfl⟩
  rw [← hw3]
  have z3 : w.heap.size + 1 + 1 < w3.heap.size := by rw [hw3]; simp
  have cB0 : w3.cell? ⟨w.heap.size + 1, 0, none⟩ = some (.int .i64 b.1) := by subst hw3; simp [go_sem]
  have cB1 : w3.cell? ⟨w.heap.size + 1, 1, none⟩ = some (.int .i64 b.2) := by subst hw3; simp [go_sem]
  have cR0 : w3.cell? ⟨w.heap.size + 1 + 1, 0, none⟩ = some (.int .i64 0) := by subst hw3; simp [go_sem]
  have cR1 : w3.cell? ⟨w.heap.size + 1 + 1, 1, none⟩ = some (.int .i64 0) := by subst hw3; simp [go_sem]
  have cF0 : w3.frozen? ⟨w.heap.size + 1 + 1, 0, none⟩ = false := by subst hw3; simp [go_sem]
  have cF1 : w3.frozen? ⟨w.heap.size + 1 + 1, 1, none⟩ = false := by subst hw3; simp [go_sem]
  have W3 : Hid (Below w.heap.size w w3) := by unfold Hid; rw [hw3]; exact (by repeat (first | exact Below.refl _ _ | (refine Below.drew ?_) | (refine below_drewN ?_ _) | (refine Below.setCell ?_ (by first | omega | (simp; done) | (simp; omega)) _) | (refine Below.alloc ?_ (by first | omega | (simp; done) | (simp; omega)) _) | (refine Below.trans ?_ (Below.mono (by assumption) (by first | omega | (simp; done) | (simp; omega))))))
  clear hw3
  have KB : ∀ (wr : World) (v : Value) (ps : List Int), Hid (St w3 wr v ps) → (∀ n o, n < w3.heap.size → wr.cell? ⟨n, o, none⟩ = w3.cell? ⟨n, o, none⟩) ∧ (∀ n o, n < w3.heap.size → wr.frozen? ⟨n, o, none⟩ = w3.frozen? ⟨n, o, none⟩) ∧ w3.heap.size ≤ wr.heap.size := fun wr v ps h => ⟨(bcell h.out.bel).1, (bcell h.out.bel).2, h.out.bel.size⟩
  generalize hR : w.heap.size + 1 + 1 = R at *
  generalize hBq : w.heap.size + 1 = Bq at *
  have zB : Bq < R := by omega
  have rb : w.heap.size ≤ R := by omega
  clear hR hBq
  go_loopw [5, 17] (fun sl ix wr => (ix = .int .i64 0 ∧ Hid (St w3 wr sl [] ∧ True)) ∨ (ix = .int .i64 1 ∧ Hid (St w3 wr sl [(a.1 * b.1), (a.1 * b.2)] ∧ fit (a.1 * b.1) = true ∧ fit (a.1 * b.2) = true ∧ True)) ∨ (ix = .int .i64 2 ∧ Hid (St w3 wr sl [(a.1 * b.1), (a.1 * b.2), (a.2 * b.1), (a.2 * b.2)] ∧ fit (a.1 * b.1) = true ∧ fit (a.1 * b.2) = true ∧ fit (a.2 * b.1) = true ∧ fit (a.2 * b.2) = true ∧ True))) (fun _ i _ => 2 - (intOf i).toNat)
  case atStart => exact Or.inl ⟨rfl, S0.out w3, trivial⟩
  case round =>
    clear S0
    rcases hrel with ⟨rfl, hS⟩ | ⟨rfl, hS⟩ | ⟨rfl, hS⟩
    · obtain ⟨a1, c1, rfl⟩ := (hS.out.1).slice
      obtain ⟨hc, hf, hz⟩ := KB _ _ _ (hS.out.1)
      have dB0 := (hc Bq 0 (by omega)).trans cB0
      have dB1 := (hc Bq 1 (by omega)).trans cB1
      have dR0 := (hc R 0 z3).trans cR0
      have dR1 := (hc R 1 z3).trans cR1
      have dF0 := (hf R 0 z3).trans cF0
      have dF1 := (hf R 1 z3).trans cF1
      have zR : R < wr.heap.size := by omega
      have hWr : Below w.heap.size w wr := W3.out.trans ((hS.out.1).bel.mono W3.out.size)
      clear hc hf
      go_wp2_with fail
      have hS1 := hS
      clear hS zR dR0 dR1 dF0 dF1 dB0 dB1 hWr hz
      go_loopw [5, 25] (fun sl ix wr => (ix = .int .i64 0 ∧ Hid (St w3 wr sl [] ∧ True)) ∨ (ix = .int .i64 1 ∧ Hid (St w3 wr sl [(a.1 * b.1)] ∧ fit (a.1 * b.1) = true ∧ True)) ∨ (ix = .int .i64 2 ∧ Hid (St w3 wr sl [(a.1 * b.1), (a.1 * b.2)] ∧ fit (a.1 * b.1) = true ∧ fit (a.1 * b.2) = true ∧ True))) (fun _ i _ => 2 - (intOf i).toNat)
      case atStart => exact Or.inl ⟨rfl, hS1⟩
      case round =>
        clear hS1
        rcases hrel with ⟨rfl, hS⟩ | ⟨rfl, hS⟩ | ⟨rfl, hS⟩
        · obtain ⟨a1, c1, rfl⟩ := (hS.out.1).slice
          obtain ⟨hc, hf, hz⟩ := KB _ _ _ (hS.out.1)
          have dB0 := (hc Bq 0 (by omega)).trans cB0
          have dB1 := (hc Bq 1 (by omega)).trans cB1
          have dR0 := (hc R 0 z3).trans cR0
          have dR1 := (hc R 1 z3).trans cR1
          have dF0 := (hf R 0 z3).trans cF0
          have dF1 := (hf R 1 z3).trans cF1
          have zR : R < wr.heap.size := by omega
          have hWr : Below w.heap.size w wr := W3.out.trans ((hS.out.1).bel.mono W3.out.size)
          clear hc hf
          by_cases f : fit (a.1 * b.1) = true
          · have g := (fit_iff _).1 f
            have e := wrap_fit _ g.1 g.2
            clear g
            go_wp2_with (first | (go_at_call 55; refine (product_any _ _ _ (by assumption) (by assumption)).mono ?_; rintro e w1 ⟨rfl, j1, rfl⟩) | (at_builtin; refine wpList_app1 w3 _ rfl (.tmp 37) (.tmp 39) rfl _ [] (a.1 * b.1) (hS.out.1.drewN _) rfl rfl (Nat.le_of_ble_eq_true rfl) ?_; intro a2 c2 w2 hS2; replace hS2 := (hide hS2)))
            go_round
            case rel => exact Or.inr (Or.inl ⟨rfl, hS2.out, f, trivial⟩)
            case measure => simp [intOf]
          · have f : fit (a.1 * b.1) = false := by simpa using f
            have HC : Hid (prodsP a b = (-9223372036854775808, 9223372036854775807)) := HA.out (fun h => by simp [f] at h)
            go_wp2_with (first | (go_at_call 55; refine (product_any _ _ _ (by assumption) (by assumption)).mono ?_; rintro e w1 ⟨rfl, j1, rfl⟩) | (go_at_call 17; refine (any_any _).mono ?_; rintro e w1 ⟨rfl, o1, rfl⟩; have d0 := (World.cell?_alloc_past (w := wr.drewN j1) o1 R 0 zR).trans dR0; have d1 := (World.cell?_alloc_past (w := wr.drewN j1) o1 R 1 zR).trans dR1; have f0 := (World.frozen?_alloc_past (w := wr.drewN j1) o1 R 0 zR).trans dF0; have f1 := (World.frozen?_alloc_past (w := wr.drewN j1) o1 R 1 zR).trans dF1; have hWn : Below w.heap.size w ((wr.drewN j1).alloc o1) := Below.alloc (below_drewN hWr j1) hWr.size o1; clear hWr dR0 dR1 dF0 dF1 dB0 dB1; generalize (wr.drewN j1).alloc o1 = wn at d0 d1 f0 f1 hWn ⊢))
            refine bodyPost_ret (by simp [results, Try.results38, go_sem, *]; try rfl) rfl ⟨?_, (by repeat (first | assumption | (refine Below.drew ?_) | (refine below_drewN ?_ _) | (refine Below.setCell ?_ (by first | omega | (simp; omega)) _) | (refine Below.alloc ?_ (by first | omega | (simp; omega)) _)))⟩
            rw [HC.out]
        · obtain ⟨a1, c1, rfl⟩ := (hS.out.1).slice
          obtain ⟨hc, hf, hz⟩ := KB _ _ _ (hS.out.1)
          have dB0 := (hc Bq 0 (by omega)).trans cB0
          have dB1 := (hc Bq 1 (by omega)).trans cB1
          have dR0 := (hc R 0 z3).trans cR0
          have dR1 := (hc R 1 z3).trans cR1
          have dF0 := (hf R 0 z3).trans cF0
          have dF1 := (hf R 1 z3).trans cF1
          have zR : R < wr.heap.size := by omega
          have hWr : Below w.heap.size w wr := W3.out.trans ((hS.out.1).bel.mono W3.out.size)
          clear hc hf
          by_cases f : fit (a.1 * b.2) = true
          · have g := (fit_iff _).1 f
            have e := wrap_fit _ g.1 g.2
            clear g
            go_wp2_with (first | (go_at_call 55; refine (product_any _ _ _ (by assumption) (by assumption)).mono ?_; rintro e w1 ⟨rfl, j1, rfl⟩) | (at_builtin; refine wpList_app1 w3 _ rfl (.tmp 37) (.tmp 39) rfl _ [(a.1 * b.1)] (a.1 * b.2) (hS.out.1.drewN _) rfl rfl (Nat.le_of_ble_eq_true rfl) ?_; intro a2 c2 w2 hS2; replace hS2 := (hide hS2)))
            go_round
            case rel => exact Or.inr (Or.inr ⟨rfl, hS2.out, hS.out.2.1, f, trivial⟩)
            case measure => simp [intOf]
          · have f : fit (a.1 * b.2) = false := by simpa using f
            have HC : Hid (prodsP a b = (-9223372036854775808, 9223372036854775807)) := HA.out (fun h => by simp [f] at h)
            go_wp2_with (first | (go_at_call 55; refine (product_any _ _ _ (by assumption) (by assumption)).mono ?_; rintro e w1 ⟨rfl, j1, rfl⟩) | (go_at_call 17; refine (any_any _).mono ?_; rintro e w1 ⟨rfl, o1, rfl⟩; have d0 := (World.cell?_alloc_past (w := wr.drewN j1) o1 R 0 zR).trans dR0; have d1 := (World.cell?_alloc_past (w := wr.drewN j1) o1 R 1 zR).trans dR1; have f0 := (World.frozen?_alloc_past (w := wr.drewN j1) o1 R 0 zR).trans dF0; have f1 := (World.frozen?_alloc_past (w := wr.drewN j1) o1 R 1 zR).trans dF1; have hWn : Below w.heap.size w ((wr.drewN j1).alloc o1) := Below.alloc (below_drewN hWr j1) hWr.size o1; clear hWr dR0 dR1 dF0 dF1 dB0 dB1; generalize (wr.drewN j1).alloc o1 = wn at d0 d1 f0 f1 hWn ⊢))
            refine bodyPost_ret (by simp [results, Try.results38, go_sem, *]; try rfl) rfl ⟨?_, (by repeat (first | assumption | (refine Below.drew ?_) | (refine below_drewN ?_ _) | (refine Below.setCell ?_ (by first | omega | (simp; omega)) _) | (refine Below.alloc ?_ (by first | omega | (simp; omega)) _)))⟩
            rw [HC.out]
        · obtain ⟨a1, c1, rfl⟩ := (hS.out.1).slice
          go_wp2_with fail
          go_round
          case rel => exact Or.inr (Or.inl ⟨rfl, hS⟩)
          case measure => simp [intOf]
    · obtain ⟨a1, c1, rfl⟩ := (hS.out.1).slice
      obtain ⟨hc, hf, hz⟩ := KB _ _ _ (hS.out.1)
      have dB0 := (hc Bq 0 (by omega)).trans cB0
      have dB1 := (hc Bq 1 (by omega)).trans cB1
      have dR0 := (hc R 0 z3).trans cR0
      have dR1 := (hc R 1 z3).trans cR1
      have dF0 := (hf R 0 z3).trans cF0
      have dF1 := (hf R 1 z3).trans cF1
      have zR : R < wr.heap.size := by omega
      have hWr : Below w.heap.size w wr := W3.out.trans ((hS.out.1).bel.mono W3.out.size)
      clear hc hf
      go_wp2_with fail
      have hS1 := hS
      clear hS zR dR0 dR1 dF0 dF1 dB0 dB1 hWr hz
      go_loopw [5, 25] (fun sl ix wr => (ix = .int .i64 0 ∧ Hid (St w3 wr sl [(a.1 * b.1), (a.1 * b.2)] ∧ fit (a.1 * b.1) = true ∧ fit (a.1 * b.2) = true ∧ True)) ∨ (ix = .int .i64 1 ∧ Hid (St w3 wr sl [(a.1 * b.1), (a.1 * b.2), (a.2 * b.1)] ∧ fit (a.1 * b.1) = true ∧ fit (a.1 * b.2) = true ∧ fit (a.2 * b.1) = true ∧ True)) ∨ (ix = .int .i64 2 ∧ Hid (St w3 wr sl [(a.1 * b.1), (a.1 * b.2), (a.2 * b.1), (a.2 * b.2)] ∧ fit (a.1 * b.1) = true ∧ fit (a.1 * b.2) = true ∧ fit (a.2 * b.1) = true ∧ fit (a.2 * b.2) = true ∧ True))) (fun _ i _ => 2 - (intOf i).toNat)
      case atStart => exact Or.inl ⟨rfl, hS1⟩
      case round =>
        clear hS1
        rcases hrel with ⟨rfl, hS⟩ | ⟨rfl, hS⟩ | ⟨rfl, hS⟩
        · obtain ⟨a1, c1, rfl⟩ := (hS.out.1).slice
          obtain ⟨hc, hf, hz⟩ := KB _ _ _ (hS.out.1)
          have dB0 := (hc Bq 0 (by omega)).trans cB0
          have dB1 := (hc Bq 1 (by omega)).trans cB1
          have dR0 := (hc R 0 z3).trans cR0
          have dR1 := (hc R 1 z3).trans cR1
          have dF0 := (hf R 0 z3).trans cF0
          have dF1 := (hf R 1 z3).trans cF1
          have zR : R < wr.heap.size := by omega
          have hWr : Below w.heap.size w wr := W3.out.trans ((hS.out.1).bel.mono W3.out.size)
          clear hc hf
          by_cases f : fit (a.2 * b.1) = true
          · have g := (fit_iff _).1 f
            have e := wrap_fit _ g.1 g.2
            clear g
            go_wp2_with (first | (go_at_call 55; refine (product_any _ _ _ (by assumption) (by assumption)).mono ?_; rintro e w1 ⟨rfl, j1, rfl⟩) | (at_builtin; refine wpList_app1 w3 _ rfl (.tmp 37) (.tmp 39) rfl _ [(a.1 * b.1), (a.1 * b.2)] (a.2 * b.1) (hS.out.1.drewN _) rfl rfl (Nat.le_of_ble_eq_true rfl) ?_; intro a2 c2 w2 hS2; replace hS2 := (hide hS2)))
            go_round
            case rel => exact Or.inr (Or.inl ⟨rfl, hS2.out, hS.out.2.1, hS.out.2.2.1, f, trivial⟩)
            case measure => simp [intOf]
          · have f : fit (a.2 * b.1) = false := by simpa using f
            have HC : Hid (prodsP a b = (-9223372036854775808, 9223372036854775807)) := HA.out (fun h => by simp [f] at h)
            go_wp2_with (first | (go_at_call 55; refine (product_any _ _ _ (by assumption) (by assumption)).mono ?_; rintro e w1 ⟨rfl, j1, rfl⟩) | (go_at_call 17; refine (any_any _).mono ?_; rintro e w1 ⟨rfl, o1, rfl⟩; have d0 := (World.cell?_alloc_past (w := wr.drewN j1) o1 R 0 zR).trans dR0; have d1 := (World.cell?_alloc_past (w := wr.drewN j1) o1 R 1 zR).trans dR1; have f0 := (World.frozen?_alloc_past (w := wr.drewN j1) o1 R 0 zR).trans dF0; have f1 := (World.frozen?_alloc_past (w := wr.drewN j1) o1 R 1 zR).trans dF1; have hWn : Below w.heap.size w ((wr.drewN j1).alloc o1) := Below.alloc (below_drewN hWr j1) hWr.size o1; clear hWr dR0 dR1 dF0 dF1 dB0 dB1; generalize (wr.drewN j1).alloc o1 = wn at d0 d1 f0 f1 hWn ⊢))
            refine bodyPost_ret (by simp [results, Try.results38, go_sem, *]; try rfl) rfl ⟨?_, (by repeat (first | assumption | (refine Below.drew ?_) | (refine below_drewN ?_ _) | (refine Below.setCell ?_ (by first | omega | (simp; omega)) _) | (refine Below.alloc ?_ (by first | omega | (simp; omega)) _)))⟩
            rw [HC.out]
        · obtain ⟨a1, c1, rfl⟩ := (hS.out.1).slice
          obtain ⟨hc, hf, hz⟩ := KB _ _ _ (hS.out.1)
          have dB0 := (hc Bq 0 (by omega)).trans cB0
          have dB1 := (hc Bq 1 (by omega)).trans cB1
          have dR0 := (hc R 0 z3).trans cR0
          have dR1 := (hc R 1 z3).trans cR1
          have dF0 := (hf R 0 z3).trans cF0
          have dF1 := (hf R 1 z3).trans cF1
          have zR : R < wr.heap.size := by omega
          have hWr : Below w.heap.size w wr := W3.out.trans ((hS.out.1).bel.mono W3.out.size)
          clear hc hf
          by_cases f : fit (a.2 * b.2) = true
          · have g := (fit_iff _).1 f
            have e := wrap_fit _ g.1 g.2
            clear g
            go_wp2_with (first | (go_at_call 55; refine (product_any _ _ _ (by assumption) (by assumption)).mono ?_; rintro e w1 ⟨rfl, j1, rfl⟩) | (at_builtin; refine wpList_app1 w3 _ rfl (.tmp 37) (.tmp 39) rfl _ [(a.1 * b.1), (a.1 * b.2), (a.2 * b.1)] (a.2 * b.2) (hS.out.1.drewN _) rfl rfl (Nat.le_of_ble_eq_true rfl) ?_; intro a2 c2 w2 hS2; replace hS2 := (hide hS2)))
            go_round
            case rel => exact Or.inr (Or.inr ⟨rfl, hS2.out, hS.out.2.1, hS.out.2.2.1, hS.out.2.2.2.1, f, trivial⟩)
            case measure => simp [intOf]
          · have f : fit (a.2 * b.2) = false := by simpa using f
            have HC : Hid (prodsP a b = (-9223372036854775808, 9223372036854775807)) := HA.out (fun h => by simp [f] at h)
            go_wp2_with (first | (go_at_call 55; refine (product_any _ _ _ (by assumption) (by assumption)).mono ?_; rintro e w1 ⟨rfl, j1, rfl⟩) | (go_at_call 17; refine (any_any _).mono ?_; rintro e w1 ⟨rfl, o1, rfl⟩; have d0 := (World.cell?_alloc_past (w := wr.drewN j1) o1 R 0 zR).trans dR0; have d1 := (World.cell?_alloc_past (w := wr.drewN j1) o1 R 1 zR).trans dR1; have f0 := (World.frozen?_alloc_past (w := wr.drewN j1) o1 R 0 zR).trans dF0; have f1 := (World.frozen?_alloc_past (w := wr.drewN j1) o1 R 1 zR).trans dF1; have hWn : Below w.heap.size w ((wr.drewN j1).alloc o1) := Below.alloc (below_drewN hWr j1) hWr.size o1; clear hWr dR0 dR1 dF0 dF1 dB0 dB1; generalize (wr.drewN j1).alloc o1 = wn at d0 d1 f0 f1 hWn ⊢))
            refine bodyPost_ret (by simp [results, Try.results38, go_sem, *]; try rfl) rfl ⟨?_, (by repeat (first | assumption | (refine Below.drew ?_) | (refine below_drewN ?_ _) | (refine Below.setCell ?_ (by first | omega | (simp; omega)) _) | (refine Below.alloc ?_ (by first | omega | (simp; omega)) _)))⟩
            rw [HC.out]
        · obtain ⟨a1, c1, rfl⟩ := (hS.out.1).slice
          go_wp2_with fail
          go_round
          case rel => exact Or.inr (Or.inr ⟨rfl, hS⟩)
          case measure => simp [intOf]
    · obtain ⟨a1, c1, rfl⟩ := (hS.out.1).slice
      obtain ⟨hc, hf, hz⟩ := KB _ _ _ (hS.out.1)
      have dB0 := (hc Bq 0 (by omega)).trans cB0
      have dB1 := (hc Bq 1 (by omega)).trans cB1
      have dR0 := (hc R 0 z3).trans cR0
      have dR1 := (hc R 1 z3).trans cR1
      have dF0 := (hf R 0 z3).trans cF0
      have dF1 := (hf R 1 z3).trans cF1
      have zR : R < wr.heap.size := by omega
      have hWr : Below w.heap.size w wr := W3.out.trans ((hS.out.1).bel.mono W3.out.size)
      clear hc hf
      obtain ⟨g, rfl, hrow⟩ := St.row (n := (a.1 * b.1)) (ps := [(a.1 * b.2), (a.2 * b.1), (a.2 * b.2)]) (hS.out.1)
      have HR : Hid (RowN wr g [(a.1 * b.1), (a.1 * b.2), (a.2 * b.1), (a.2 * b.2)]) := hrow
      clear hrow
      have HC := HB.out ⟨hS.out.2.1, hS.out.2.2.1, hS.out.2.2.2.1, hS.out.2.2.2.2.1⟩
      replace HC := (hide HC)
      have M1 := fun w1 h => min_any g c1 (a.1 * b.1) [(a.1 * b.2), (a.2 * b.1), (a.2 * b.2)] w1 h (Nat.le_of_ble_eq_true rfl)
      have M2 := fun w1 h => max_any g c1 (a.1 * b.1) [(a.1 * b.2), (a.2 * b.1), (a.2 * b.2)] w1 h (Nat.le_of_ble_eq_true rfl)
      generalize lst (a.1 * b.1) [(a.1 * b.2), (a.2 * b.1), (a.2 * b.2)] = lo at *
      generalize grt (a.1 * b.1) [(a.1 * b.2), (a.2 * b.1), (a.2 * b.2)] = hi at *
      go_wp2_with (first | (go_at_call 56; refine (M1 _ HR.out).mono ?_; rintro e w1 ⟨rfl, rfl⟩) | (go_at_call 57; refine (M2 _ HR.out).mono ?_; rintro e w1 ⟨rfl, rfl⟩))
      refine bodyPost_ret (by simp [results, Try.results38, go_sem, *]; try rfl) rfl ⟨?_, (by repeat (first | assumption | (refine Below.drew ?_) | (refine below_drewN ?_ _) | (refine Below.setCell ?_ (by first | omega | (simp; omega)) _) | (refine Below.alloc ?_ (by first | omega | (simp; omega)) _)))⟩
      rw [HC.out]
end Go.Proofs.Ytpegiljajlljkaa
