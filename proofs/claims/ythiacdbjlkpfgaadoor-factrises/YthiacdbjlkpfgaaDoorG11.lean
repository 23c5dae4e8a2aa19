import Derived.Test.YthiacdbjlkpfgaaDoorG05
import Derived.Test.YthiacdbjlkpfgaaDoorG07
import Derived.Test.YthiacdbjlkpfgaaDoorG08
import Derived.Test.YthiacdbjlkpfgaaDoorG09
import Derived.Test.YthiacdbjlkpfgaaDoorG10
import Derived.LoopTactic
import Derived.Deep.QuietTactic
import Derived.BigQuiet
namespace Go.Proofs.YthiacdbjlkpfgaaDoor
open Go.RowKit
set_option maxRecDepth 100000 in
set_option maxHeartbeats 16000000 in
theorem products_any (a b : Int × Int) (w : World) (ha : Sp a) (hb : Sp b) : Calls Tryd.prog 58 #[.agg #[.int .i64 a.1, .int .i64 a.2], .agg #[.int .i64 b.1, .int .i64 b.2]] w fun e w' => e = .returned (.agg #[.int .i64 (prodsP a b).1, .int .i64 (prodsP a b).2]) ∧ Below w.heap.size w w' := by
  have i1 : i64 a.1 := by unfold Sp at ha; unfold i64; omega
  have i2 : i64 a.2 := by unfold Sp at ha; unfold i64; omega
  have i3 : i64 b.1 := by unfold Sp at hb; unfold i64; omega
  have i4 : i64 b.2 := by unfold Sp at hb; unfold i64; omega
  have HA : Hid (¬ (fit (a.1 * b.1) = true ∧ fit (a.1 * b.2) = true ∧ fit (a.2 * b.1) = true ∧ fit (a.2 * b.2) = true) → prodsP a b = (-9223372036854775808, 9223372036854775807)) := fun h => by
    unfold prodsP
    rw [if_neg (by simp only [Bool.and_eq_true]; exact fun k => h ⟨k.1.1.1, k.1.1.2, k.1.2, k.2⟩)]
    rfl
  have HB : Hid ((fit (a.1 * b.1) = true ∧ fit (a.1 * b.2) = true ∧ fit (a.2 * b.1) = true ∧ fit (a.2 * b.2) = true) → prodsP a b = (lst (a.1 * b.1) [(a.1 * b.2), (a.2 * b.1), (a.2 * b.2)], grt (a.1 * b.1) [(a.1 * b.2), (a.2 * b.1), (a.2 * b.2)])) := fun h => by
    unfold prodsP
    rw [if_pos (by simp only [Bool.and_eq_true]; exact ⟨⟨⟨h.1, h.2.1⟩, h.2.2.1⟩, h.2.2.2⟩)]
    unfold mn mx
    simp only [lst, grt, Prod.mk.injEq]
    omega
  clear ha hb
  have X0 := idx0
  have X1 := idx1
  have S0 : Hid (∀ w0 : World, St w0 w0 (.slice none 0 0) []) := St.start
  go_enter Tryd.func58, Tryd.ntmps58
  go_wp2_with fail
  obtain ⟨w3, hw3⟩ : ∃ w3, w3 = ((w.alloc (.cells #[.int .i64 a.1, .int .i64 a.2] 31)).alloc (.cells #[.int .i64 b.1, .int .i64 b.2] 31)).alloc (.cells #[.int .i64 0, .int .i64 0] 31) := ⟨_, rfl⟩
  rw [← hw3]
  have z3 : w.heap.size + 1 + 1 < w3.heap.size := by rw [hw3]; simp
  have cB0 : w3.cell? ⟨w.heap.size + 1, 0, none⟩ = some (.int .i64 b.1) := by subst hw3; simp [go_sem]
  have cB1 : w3.cell? ⟨w.heap.size + 1, 1, none⟩ = some (.int .i64 b.2) := by subst hw3; simp [go_sem]
  have cR0 : w3.cell? ⟨w.heap.size + 1 + 1, 0, none⟩ = some (.int .i64 0) := by subst hw3; simp [go_sem]
  have cR1 : w3.cell? ⟨w.heap.size + 1 + 1, 1, none⟩ = some (.int .i64 0) := by subst hw3; simp [go_sem]
  have cF0 : w3.frozen? ⟨w.heap.size + 1 + 1, 0, none⟩ = false := by subst hw3; simp [go_sem]
  have cF1 : w3.frozen? ⟨w.heap.size + 1 + 1, 1, none⟩ = false := by subst hw3; simp [go_sem]
  have W3 : Hid (Below w.heap.size w w3) := by unfold Hid; rw [hw3]; exact (by repeat (first | exact Below.refl _ _ | (refine Below.drew ?_) | (refine below_drewN ?_ _) | (refine Below.setCell ?_ (by first | omega | (simp; done) | (simp; omega)) _) | (refine Below.alloc ?_ (by first | omega | (simp; done) | (simp; omega)) _) | (refine Below.trans ?_ (Below.mono (by assumption) (by first | omega | (simp; done) | (simp; omega))))))
  clear hw3
  have KB : ∀ (wr : World) (v : Value) (ps : List Int), Hid (St w3 wr v ps) → (∀ n o, n < w3.heap.size → wr.cell? ⟨n, o, none⟩ = w3.cell? ⟨n, o, none⟩) ∧ (∀ n o, n < w3.heap.size → wr.frozen? ⟨n, o, none⟩ = w3.frozen? ⟨n, o, none⟩) ∧ w3.heap.size ≤ wr.heap.size := fun wr v ps h => ⟨(bcell h.out.bel).1, (bcell h.out.bel).2, h.out.bel.size⟩
  generalize hR : w.heap.size + 1 + 1 = R at *
  generalize hBq : w.heap.size + 1 = Bq at *
  have zB : Bq < R := by omega
  have rb : w.heap.size ≤ R := by omega
  clear hR hBq
  go_loopw [5, 17] (fun sl ix wr => (ix = .int .i64 0 ∧ Hid (St w3 wr sl [] ∧ True)) ∨ (ix = .int .i64 1 ∧ Hid (St w3 wr sl [(a.1 * b.1), (a.1 * b.2)] ∧ fit (a.1 * b.1) = true ∧ fit (a.1 * b.2) = true ∧ True)) ∨ (ix = .int .i64 2 ∧ Hid (St w3 wr sl [(a.1 * b.1), (a.1 * b.2), (a.2 * b.1), (a.2 * b.2)] ∧ fit (a.1 * b.1) = true ∧ fit (a.1 * b.2) = true ∧ fit (a.2 * b.1) = true ∧ fit (a.2 * b.2) = true ∧ True))) (fun _ i _ => 2 - (intOf i).toNat)
  case atStart => exact Or.inl ⟨rfl, S0.out w3, trivial⟩
  case round =>
    clear S0
    rcases hrel with ⟨rfl, hS⟩ | ⟨rfl, hS⟩ | ⟨rfl, hS⟩
    · obtain ⟨a1, c1, rfl⟩ := (hS.out.1).slice
      obtain ⟨hc, hf, hz⟩ := KB _ _ _ (hS.out.1)
      have dB0 := (hc Bq 0 (by omega)).trans cB0
      have dB1 := (hc Bq 1 (by omega)).trans cB1
      have dR0 := (hc R 0 z3).trans cR0
      have dR1 := (hc R 1 z3).trans cR1
      have dF0 := (hf R 0 z3).trans cF0
      have dF1 := (hf R 1 z3).trans cF1
      have zR : R < wr.heap.size := by omega
      have hWr : Below w.heap.size w wr := W3.out.trans ((hS.out.1).bel.mono W3.out.size)
      clear hc hf
      go_wp2_with fail
      have hS1 := hS
      clear hS zR dR0 dR1 dF0 dF1 dB0 dB1 hWr hz
      go_loopw [5, 25] (fun sl ix wr => (ix = .int .i64 0 ∧ Hid (St w3 wr sl [] ∧ True)) ∨ (ix = .int .i64 1 ∧ Hid (St w3 wr sl [(a.1 * b.1)] ∧ fit (a.1 * b.1) = true ∧ True)) ∨ (ix = .int .i64 2 ∧ Hid (St w3 wr sl [(a.1 * b.1), (a.1 * b.2)] ∧ fit (a.1 * b.1) = true ∧ fit (a.1 * b.2) = true ∧ True))) (fun _ i _ => 2 - (intOf i).toNat)
      case atStart => exact Or.inl ⟨rfl, hS1⟩
      case round =>
        clear hS1
        rcases hrel with ⟨rfl, hS⟩ | ⟨rfl, hS⟩ | ⟨rfl, hS⟩
        · obtain ⟨a1, c1, rfl⟩ := (hS.out.1).slice
          obtain ⟨hc, hf, hz⟩ := KB _ _ _ (hS.out.1)
          have dB0 := (hc Bq 0 (by omega)).trans cB0
          have dB1 := (hc Bq 1 (by omega)).trans cB1
          have dR0 := (hc R 0 z3).trans cR0
          have dR1 := (hc R 1 z3).trans cR1
          have dF0 := (hf R 0 z3).trans cF0
          have dF1 := (hf R 1 z3).trans cF1
          have zR : R < wr.heap.size := by omega
          have hWr : Below w.heap.size w wr := W3.out.trans ((hS.out.1).bel.mono W3.out.size)
          clear hc hf
          by_cases f : fit (a.1 * b.1) = true
          · have g := (fit_iff _).1 f
            have e := wrap_fit _ g.1 g.2
            clear g
            go_wp2_with (first | (go_at_call 81; refine (product_any _ _ _ (by assumption) (by assumption)).mono ?_; rintro e w1 ⟨rfl, j1, rfl⟩) | (at_builtin; refine wpList_app1 w3 _ rfl (.tmp 37) (.tmp 39) rfl _ [] (a.1 * b.1) (hS.out.1.drewN _) rfl rfl (Nat.le_of_ble_eq_true rfl) ?_; intro a2 c2 w2 hS2; replace hS2 := (hide hS2)))
            go_round
            case rel => exact Or.inr (Or.inl ⟨rfl, hS2.out, f, trivial⟩)
            case measure => simp [intOf]
          · have f : fit (a.1 * b.1) = false := by simpa using f
            have HC : Hid (prodsP a b = (-9223372036854775808, 9223372036854775807)) := HA.out (fun h => by simp [f] at h)
            go_wp2_with (first | (go_at_call 81; refine (product_any _ _ _ (by assumption) (by assumption)).mono ?_; rintro e w1 ⟨rfl, j1, rfl⟩) | (go_at_call 73; refine (nany_any _).mono ?_; rintro e w1 ⟨rfl, o1, rfl⟩; have d0 := (World.cell?_alloc_past (w := wr.drewN j1) o1 R 0 zR).trans dR0; have d1 := (World.cell?_alloc_past (w := wr.drewN j1) o1 R 1 zR).trans dR1; have f0 := (World.frozen?_alloc_past (w := wr.drewN j1) o1 R 0 zR).trans dF0; have f1 := (World.frozen?_alloc_past (w := wr.drewN j1) o1 R 1 zR).trans dF1; have hWn : Below w.heap.size w ((wr.drewN j1).alloc o1) := Below.alloc (below_drewN hWr j1) hWr.size o1; clear hWr dR0 dR1 dF0 dF1 dB0 dB1; generalize (wr.drewN j1).alloc o1 = wn at d0 d1 f0 f1 hWn ⊢))
            refine bodyPost_ret (by simp [results, Tryd.results58, go_sem, *]; try rfl) rfl ⟨?_, (by repeat (first | assumption | (refine Below.drew ?_) | (refine below_drewN ?_ _) | (refine Below.setCell ?_ (by first | omega | (simp; omega)) _) | (refine Below.alloc ?_ (by first | omega | (simp; omega)) _)))⟩
            rw [HC.out]
        · obtain ⟨a1, c1, rfl⟩ := (hS.out.1).slice
          obtain ⟨hc, hf, hz⟩ := KB _ _ _ (hS.out.1)
          have dB0 := (hc Bq 0 (by omega)).trans cB0
          have dB1 := (hc Bq 1 (by omega)).trans cB1
          have dR0 := (hc R 0 z3).trans cR0
          have dR1 := (hc R 1 z3).trans cR1
          have dF0 := (hf R 0 z3).trans cF0
          have dF1 := (hf R 1 z3).trans cF1
          have zR : R < wr.heap.size := by omega
          have hWr : Below w.heap.size w wr := W3.out.trans ((hS.out.1).bel.mono W3.out.size)
          clear hc hf
          by_cases f : fit (a.1 * b.2) = true
          · have g := (fit_iff _).1 f
            have e := wrap_fit _ g.1 g.2
            clear g
            go_wp2_with (first | (go_at_call 81; refine (product_any _ _ _ (by assumption) (by assumption)).mono ?_; rintro e w1 ⟨rfl, j1, rfl⟩) | (at_builtin; refine wpList_app1 w3 _ rfl (.tmp 37) (.tmp 39) rfl _ [(a.1 * b.1)] (a.1 * b.2) (hS.out.1.drewN _) rfl rfl (Nat.le_of_ble_eq_true rfl) ?_; intro a2 c2 w2 hS2; replace hS2 := (hide hS2)))
            go_round
            case rel => exact Or.inr (Or.inr ⟨rfl, hS2.out, hS.out.2.1, f, trivial⟩)
            case measure => simp [intOf]
          · have f : fit (a.1 * b.2) = false := by simpa using f
            have HC : Hid (prodsP a b = (-9223372036854775808, 9223372036854775807)) := HA.out (fun h => by simp [f] at h)
            go_wp2_with (first | (go_at_call 81; refine (product_any _ _ _ (by assumption) (by assumption)).mono ?_; rintro e w1 ⟨rfl, j1, rfl⟩) | (go_at_call 73; refine (nany_any _).mono ?_; rintro e w1 ⟨rfl, o1, rfl⟩; have d0 := (World.cell?_alloc_past (w := wr.drewN j1) o1 R 0 zR).trans dR0; have d1 := (World.cell?_alloc_past (w := wr.drewN j1) o1 R 1 zR).trans dR1; have f0 := (World.frozen?_alloc_past (w := wr.drewN j1) o1 R 0 zR).trans dF0; have f1 := (World.frozen?_alloc_past (w := wr.drewN j1) o1 R 1 zR).trans dF1; have hWn : Below w.heap.size w ((wr.drewN j1).alloc o1) := Below.alloc (below_drewN hWr j1) hWr.size o1; clear hWr dR0 dR1 dF0 dF1 dB0 dB1; generalize (wr.drewN j1).alloc o1 = wn at d0 d1 f0 f1 hWn ⊢))
            refine bodyPost_ret (by simp [results, Tryd.results58, go_sem, *]; try rfl) rfl ⟨?_, (by repeat (first | assumption | (refine Below.drew ?_) | (refine below_drewN ?_ _) | (refine Below.setCell ?_ (by first | omega | (simp; omega)) _) | (refine Below.alloc ?_ (by first | omega | (simp; omega)) _)))⟩
            rw [HC.out]
        · obtain ⟨a1, c1, rfl⟩ := (hS.out.1).slice
          go_wp2_with fail
          go_round
          case rel => exact Or.inr (Or.inl ⟨rfl, hS⟩)
          case measure => simp [intOf]
    · obtain ⟨a1, c1, rfl⟩ := (hS.out.1).slice
      obtain ⟨hc, hf, hz⟩ := KB _ _ _ (hS.out.1)
      have dB0 := (hc Bq 0 (by omega)).trans cB0
      have dB1 := (hc Bq 1 (by omega)).trans cB1
      have dR0 := (hc R 0 z3).trans cR0
      have dR1 := (hc R 1 z3).trans cR1
      have dF0 := (hf R 0 z3).trans cF0
      have dF1 := (hf R 1 z3).trans cF1
      have zR : R < wr.heap.size := by omega
      have hWr : Below w.heap.size w wr := W3.out.trans ((hS.out.1).bel.mono W3.out.size)
      clear hc hf
      go_wp2_with fail
      have hS1 := hS
      clear hS zR dR0 dR1 dF0 dF1 dB0 dB1 hWr hz
      go_loopw [5, 25] (fun sl ix wr => (ix = .int .i64 0 ∧ Hid (St w3 wr sl [(a.1 * b.1), (a.1 * b.2)] ∧ fit (a.1 * b.1) = true ∧ fit (a.1 * b.2) = true ∧ True)) ∨ (ix = .int .i64 1 ∧ Hid (St w3 wr sl [(a.1 * b.1), (a.1 * b.2), (a.2 * b.1)] ∧ fit (a.1 * b.1) = true ∧ fit (a.1 * b.2) = true ∧ fit (a.2 * b.1) = true ∧ True)) ∨ (ix = .int .i64 2 ∧ Hid (St w3 wr sl [(a.1 * b.1), (a.1 * b.2), (a.2 * b.1), (a.2 * b.2)] ∧ fit (a.1 * b.1) = true ∧ fit (a.1 * b.2) = true ∧ fit (a.2 * b.1) = true ∧ fit (a.2 * b.2) = true ∧ True))) (fun _ i _ => 2 - (intOf i).toNat)
      case atStart => exact Or.inl ⟨rfl, hS1⟩
      case round =>
        clear hS1
        rcases hrel with ⟨rfl, hS⟩ | ⟨rfl, hS⟩ | ⟨rfl, hS⟩
        · obtain ⟨a1, c1, rfl⟩ := (hS.out.1).slice
          obtain ⟨hc, hf, hz⟩ := KB _ _ _ (hS.out.1)
          have dB0 := (hc Bq 0 (by omega)).trans cB0
          have dB1 := (hc Bq 1 (by omega)).trans cB1
          have dR0 := (hc R 0 z3).trans cR0
          have dR1 := (hc R 1 z3).trans cR1
          have dF0 := (hf R 0 z3).trans cF0
          have dF1 := (hf R 1 z3).trans cF1
          have zR : R < wr.heap.size := by omega
          have hWr : Below w.heap.size w wr := W3.out.trans ((hS.out.1).bel.mono W3.out.size)
          clear hc hf
          by_cases f : fit (a.2 * b.1) = true
          · have g := (fit_iff _).1 f
            have e := wrap_fit _ g.1 g.2
            clear g
            go_wp2_with (first | (go_at_call 81; refine (product_any _ _ _ (by assumption) (by assumption)).mono ?_; rintro e w1 ⟨rfl, j1, rfl⟩) | (at_builtin; refine wpList_app1 w3 _ rfl (.tmp 37) (.tmp 39) rfl _ [(a.1 * b.1), (a.1 * b.2)] (a.2 * b.1) (hS.out.1.drewN _) rfl rfl (Nat.le_of_ble_eq_true rfl) ?_; intro a2 c2 w2 hS2; replace hS2 := (hide hS2)))
            go_round
            case rel => exact Or.inr (Or.inl ⟨rfl, hS2.out, hS.out.2.1, hS.out.2.2.1, f, trivial⟩)
            case measure => simp [intOf]
          · have f : fit (a.2 * b.1) = false := by simpa using f
            have HC : Hid (prodsP a b = (-9223372036854775808, 9223372036854775807)) := HA.out (fun h => by simp [f] at h)
            go_wp2_with (first | (go_at_call 81; refine (product_any _ _ _ (by assumption) (by assumption)).mono ?_; rintro e w1 ⟨rfl, j1, rfl⟩) | (go_at_call 73; refine (nany_any _).mono ?_; rintro e w1 ⟨rfl, o1, rfl⟩; have d0 := (World.cell?_alloc_past (w := wr.drewN j1) o1 R 0 zR).trans dR0; have d1 := (World.cell?_alloc_past (w := wr.drewN j1) o1 R 1 zR).trans dR1; have f0 := (World.frozen?_alloc_past (w := wr.drewN j1) o1 R 0 zR).trans dF0; have f1 := (World.frozen?_alloc_past (w := wr.drewN j1) o1 R 1 zR).trans dF1; have hWn : Below w.heap.size w ((wr.drewN j1).alloc o1) := Below.alloc (below_drewN hWr j1) hWr.size o1; clear hWr dR0 dR1 dF0 dF1 dB0 dB1; generalize (wr.drewN j1).alloc o1 = wn at d0 d1 f0 f1 hWn ⊢))
            refine bodyPost_ret (by simp [results, Tryd.results58, go_sem, *]; try rfl) rfl ⟨?_, (by repeat (first | assumption | (refine Below.drew ?_) | (refine below_drewN ?_ _) | (refine Below.setCell ?_ (by first | omega | (simp; omega)) _) | (refine Below.alloc ?_ (by first | omega | (simp; omega)) _)))⟩
            rw [HC.out]
        · obtain ⟨a1, c1, rfl⟩ := (hS.out.1).slice
          obtain ⟨hc, hf, hz⟩ := KB _ _ _ (hS.out.1)
          have dB0 := (hc Bq 0 (by omega)).trans cB0
          have dB1 := (hc Bq 1 (by omega)).trans cB1
          have dR0 := (hc R 0 z3).trans cR0
          have dR1 := (hc R 1 z3).trans cR1
          have dF0 := (hf R 0 z3).trans cF0
          have dF1 := (hf R 1 z3).trans cF1
          have zR : R < wr.heap.size := by omega
          have hWr : Below w.heap.size w wr := W3.out.trans ((hS.out.1).bel.mono W3.out.size)
          clear hc hf
          by_cases f : fit (a.2 * b.2) = true
          · have g := (fit_iff _).1 f
            have e := wrap_fit _ g.1 g.2
            clear g
            go_wp2_with (first | (go_at_call 81; refine (product_any _ _ _ (by assumption) (by assumption)).mono ?_; rintro e w1 ⟨rfl, j1, rfl⟩) | (at_builtin; refine wpList_app1 w3 _ rfl (.tmp 37) (.tmp 39) rfl _ [(a.1 * b.1), (a.1 * b.2), (a.2 * b.1)] (a.2 * b.2) (hS.out.1.drewN _) rfl rfl (Nat.le_of_ble_eq_true rfl) ?_; intro a2 c2 w2 hS2; replace hS2 := (hide hS2)))
            go_round
            case rel => exact Or.inr (Or.inr ⟨rfl, hS2.out, hS.out.2.1, hS.out.2.2.1, hS.out.2.2.2.1, f, trivial⟩)
            case measure => simp [intOf]
          · have f : fit (a.2 * b.2) = false := by simpa using f
            have HC : Hid (prodsP a b = (-9223372036854775808, 9223372036854775807)) := HA.out (fun h => by simp [f] at h)
            go_wp2_with (first | (go_at_call 81; refine (product_any _ _ _ (by assumption) (by assumption)).mono ?_; rintro e w1 ⟨rfl, j1, rfl⟩) | (go_at_call 73; refine (nany_any _).mono ?_; rintro e w1 ⟨rfl, o1, rfl⟩; have d0 := (World.cell?_alloc_past (w := wr.drewN j1) o1 R 0 zR).trans dR0; have d1 := (World.cell?_alloc_past (w := wr.drewN j1) o1 R 1 zR).trans dR1; have f0 := (World.frozen?_alloc_past (w := wr.drewN j1) o1 R 0 zR).trans dF0; have f1 := (World.frozen?_alloc_past (w := wr.drewN j1) o1 R 1 zR).trans dF1; have hWn : Below w.heap.size w ((wr.drewN j1).alloc o1) := Below.alloc (below_drewN hWr j1) hWr.size o1; clear hWr dR0 dR1 dF0 dF1 dB0 dB1; generalize (wr.drewN j1).alloc o1 = wn at d0 d1 f0 f1 hWn ⊢))
            refine bodyPost_ret (by simp [results, Tryd.results58, go_sem, *]; try rfl) rfl ⟨?_, (by repeat (first | assumption | (refine Below.drew ?_) | (refine below_drewN ?_ _) | (refine Below.setCell ?_ (by first | omega | (simp; omega)) _) | (refine Below.alloc ?_ (by first | omega | (simp; omega)) _)))⟩
            rw [HC.out]
        · obtain ⟨a1, c1, rfl⟩ := (hS.out.1).slice
          go_wp2_with fail
          go_round
          case rel => exact Or.inr (Or.inr ⟨rfl, hS⟩)
          case measure => simp [intOf]
    · obtain ⟨a1, c1, rfl⟩ := (hS.out.1).slice
      obtain ⟨hc, hf, hz⟩ := KB _ _ _ (hS.out.1)
      have dB0 := (hc Bq 0 (by omega)).trans cB0
      have dB1 := (hc Bq 1 (by omega)).trans cB1
      have dR0 := (hc R 0 z3).trans cR0
      have dR1 := (hc R 1 z3).trans cR1
      have dF0 := (hf R 0 z3).trans cF0
      have dF1 := (hf R 1 z3).trans cF1
      have zR : R < wr.heap.size := by omega
      have hWr : Below w.heap.size w wr := W3.out.trans ((hS.out.1).bel.mono W3.out.size)
      clear hc hf
      obtain ⟨g, rfl, hrow⟩ := St.row (n := (a.1 * b.1)) (ps := [(a.1 * b.2), (a.2 * b.1), (a.2 * b.2)]) (hS.out.1)
      have HR : Hid (RowN wr g [(a.1 * b.1), (a.1 * b.2), (a.2 * b.1), (a.2 * b.2)]) := hrow
      clear hrow
      have HC := HB.out ⟨hS.out.2.1, hS.out.2.2.1, hS.out.2.2.2.1, hS.out.2.2.2.2.1⟩
      replace HC := (hide HC)
      have M1 := fun w1 h => min_any g c1 (a.1 * b.1) [(a.1 * b.2), (a.2 * b.1), (a.2 * b.2)] w1 h (Nat.le_of_ble_eq_true rfl)
      have M2 := fun w1 h => max_any g c1 (a.1 * b.1) [(a.1 * b.2), (a.2 * b.1), (a.2 * b.2)] w1 h (Nat.le_of_ble_eq_true rfl)
      generalize lst (a.1 * b.1) [(a.1 * b.2), (a.2 * b.1), (a.2 * b.2)] = lo at *
      generalize grt (a.1 * b.1) [(a.1 * b.2), (a.2 * b.1), (a.2 * b.2)] = hi at *
      go_wp2_with (first | (go_at_call 82; refine (M1 _ HR.out).mono ?_; rintro e w1 ⟨rfl, rfl⟩) | (go_at_call 83; refine (M2 _ HR.out).mono ?_; rintro e w1 ⟨rfl, rfl⟩))
      refine bodyPost_ret (by simp [results, Tryd.results58, go_sem, *]; try rfl) rfl ⟨?_, (by repeat (first | assumption | (refine Below.drew ?_) | (refine below_drewN ?_ _) | (refine Below.setCell ?_ (by first | omega | (simp; omega)) _) | (refine Below.alloc ?_ (by first | omega | (simp; omega)) _)))⟩
      rw [HC.out]
end Go.Proofs.YthiacdbjlkpfgaaDoor
namespace Go.Proofs.YthiacdbjlkpfgaaDoor
open Go.RowKit
theorem quots_any (a b : Int × Int) (w : World) (ha : Sp a) (hb : Sp b) : Calls Tryd.prog 59 #[.agg #[.int .i64 a.1, .int .i64 a.2], .agg #[.int .i64 b.1, .int .i64 b.2]] w fun e w' => e = .returned (.tuple #[.agg #[.int .i64 ((quotsP a b).1).1, .int .i64 ((quotsP a b).1).2], .bool (quotsP a b).2]) ∧ Below w.heap.size w w' := by
  by_cases hA : a.1 = -9223372036854775808 ∧ b.1 ≤ -1 ∧ -1 ≤ b.2
  · exact quots_all a b w ha hb hA
  by_cases h1 : b.1 ≤ -1
  · by_cases h2 : 1 ≤ b.2
    · exact quots_both a b w ha hb hA h1 h2
    · exact quots_below a b w ha hb hA h1 h2
  · by_cases h2 : 1 ≤ b.2
    · exact quots_above a b w ha hb hA h1 h2
    · exact quots_none a b w ha hb hA h1 h2
set_option maxRecDepth 100000 in
set_option maxHeartbeats 16000000 in
theorem two_any (op : Int) (a b : Int × Int) (w : World) (ha : Sp a) (hb : Sp b) : Calls Tryd.prog 18 #[.int .i64 op, .agg #[.int .i64 a.1, .int .i64 a.2], .agg #[.int .i64 b.1, .int .i64 b.2]] w fun e w' => e = .returned (.tuple #[.agg #[.int .i64 ((twoP op a b).1).1, .int .i64 ((twoP op a b).1).2], .bool (twoP op a b).2]) ∧ Below w.heap.size w w' := by
  by_cases q4 : op = 4
  · subst q4
    have e : twoP 4 a b = (sumsP a b, true) := by unfold twoP; simp only [Int.reduceEq, if_false, if_true]
    have hC := fun w => sums_any a b w ha hb
    rw [e]
    dsimp only
    generalize sumsP a b = r at *
    clear e ha hb
    go_enter Tryd.func18, Tryd.ntmps18
    go_wp2_with (go_at_call 56; refine (hC _).mono ?_; rintro e wQ ⟨rfl, hbQ⟩; obtain ⟨hcQ, hfQ⟩ := bcell hbQ; have hzQ := hbQ.size; simp at hzQ)
    clear hC
    refine bodyPost_ret (by simp [results, Tryd.results18, go_sem, *]; try rfl) rfl ⟨?_, (by repeat (first | exact Below.refl _ _ | (refine Below.drew ?_) | (refine below_drewN ?_ _) | (refine Below.setCell ?_ (by first | omega | (simp; done) | (simp; omega)) _) | (refine Below.alloc ?_ (by first | omega | (simp; done) | (simp; omega)) _) | (refine Below.trans ?_ (Below.mono (by assumption) (by first | omega | (simp; done) | (simp; omega))))))⟩
    rfl
  by_cases q5 : op = 5
  · subst q5
    have e : twoP 5 a b = (diffsP a b, true) := by unfold twoP; simp only [Int.reduceEq, if_false, if_true]
    have hC := fun w => differences_any a b w ha hb
    rw [e]
    dsimp only
    generalize diffsP a b = r at *
    clear e ha hb
    go_enter Tryd.func18, Tryd.ntmps18
    go_wp2_with (go_at_call 57; refine (hC _).mono ?_; rintro e wQ ⟨rfl, hbQ⟩; obtain ⟨hcQ, hfQ⟩ := bcell hbQ; have hzQ := hbQ.size; simp at hzQ)
    clear hC
    refine bodyPost_ret (by simp [results, Tryd.results18, go_sem, *]; try rfl) rfl ⟨?_, (by repeat (first | exact Below.refl _ _ | (refine Below.drew ?_) | (refine below_drewN ?_ _) | (refine Below.setCell ?_ (by first | omega | (simp; done) | (simp; omega)) _) | (refine Below.alloc ?_ (by first | omega | (simp; done) | (simp; omega)) _) | (refine Below.trans ?_ (Below.mono (by assumption) (by first | omega | (simp; done) | (simp; omega))))))⟩
    rfl
  by_cases q6 : op = 6
  · subst q6
    have e : twoP 6 a b = (prodsP a b, true) := by unfold twoP; simp only [Int.reduceEq, if_false, if_true]
    have hC := fun w => products_any a b w ha hb
    rw [e]
    dsimp only
    generalize prodsP a b = r at *
    clear e ha hb
    go_enter Tryd.func18, Tryd.ntmps18
    go_wp2_with (go_at_call 58; refine (hC _).mono ?_; rintro e wQ ⟨rfl, hbQ⟩; obtain ⟨hcQ, hfQ⟩ := bcell hbQ; have hzQ := hbQ.size; simp at hzQ)
    clear hC
    refine bodyPost_ret (by simp [results, Tryd.results18, go_sem, *]; try rfl) rfl ⟨?_, (by repeat (first | exact Below.refl _ _ | (refine Below.drew ?_) | (refine below_drewN ?_ _) | (refine Below.setCell ?_ (by first | omega | (simp; done) | (simp; omega)) _) | (refine Below.alloc ?_ (by first | omega | (simp; done) | (simp; omega)) _) | (refine Below.trans ?_ (Below.mono (by assumption) (by first | omega | (simp; done) | (simp; omega))))))⟩
    rfl
  by_cases q7 : op = 7
  · subst q7
    have e : twoP 7 a b = quotsP a b := by unfold twoP; simp only [Int.reduceEq, if_false, if_true]
    have hC := fun w => quots_any a b w ha hb
    rw [e]
    generalize quotsP a b = r at *
    clear e ha hb
    go_enter Tryd.func18, Tryd.ntmps18
    go_wp2_with (go_at_call 59; refine (hC _).mono ?_; rintro e wQ ⟨rfl, hbQ⟩; obtain ⟨hcQ, hfQ⟩ := bcell hbQ; have hzQ := hbQ.size; simp at hzQ)
    clear hC
    refine bodyPost_ret (by simp [results, Tryd.results18, go_sem, *]; try rfl) rfl ⟨?_, (by repeat (first | exact Below.refl _ _ | (refine Below.drew ?_) | (refine below_drewN ?_ _) | (refine Below.setCell ?_ (by first | omega | (simp; done) | (simp; omega)) _) | (refine Below.alloc ?_ (by first | omega | (simp; done) | (simp; omega)) _) | (refine Below.trans ?_ (Below.mono (by assumption) (by first | omega | (simp; done) | (simp; omega))))))⟩
    rfl
  by_cases q8 : op = 8
  · subst q8
    have e : twoP 8 a b = remsP a b := by unfold twoP; simp only [Int.reduceEq, if_false, if_true]
    have hC := fun w => rems_any a.1 a.2 b.1 b.2 w ha hb
    rw [e]
    generalize remsP a b = r at *
    clear e ha hb
    go_enter Tryd.func18, Tryd.ntmps18
    go_wp2_with (go_at_call 60; refine (hC _).mono ?_; rintro e wQ ⟨rfl, hbQ⟩; obtain ⟨hcQ, hfQ⟩ := bcell hbQ; have hzQ := hbQ.size; simp at hzQ)
    clear hC
    refine bodyPost_ret (by simp [results, Tryd.results18, go_sem, *]; try rfl) rfl ⟨?_, (by repeat (first | exact Below.refl _ _ | (refine Below.drew ?_) | (refine below_drewN ?_ _) | (refine Below.setCell ?_ (by first | omega | (simp; done) | (simp; omega)) _) | (refine Below.alloc ?_ (by first | omega | (simp; done) | (simp; omega)) _) | (refine Below.trans ?_ (Below.mono (by assumption) (by first | omega | (simp; done) | (simp; omega))))))⟩
    rfl
  by_cases q9 : op = 9
  · subst q9
    have e : twoP 9 a b = (andsP a b, true) := by unfold twoP; simp only [Int.reduceEq, if_false, if_true]
    have hC := fun w => ands_any a b w
    rw [e]
    dsimp only
    generalize andsP a b = r at *
    clear e ha hb
    go_enter Tryd.func18, Tryd.ntmps18
    go_wp2_with (go_at_call 61; refine (hC _).mono ?_; rintro e wQ ⟨rfl, hbQ⟩; obtain ⟨hcQ, hfQ⟩ := bcell hbQ; have hzQ := hbQ.size; simp at hzQ)
    clear hC
    refine bodyPost_ret (by simp [results, Tryd.results18, go_sem, *]; try rfl) rfl ⟨?_, (by repeat (first | exact Below.refl _ _ | (refine Below.drew ?_) | (refine below_drewN ?_ _) | (refine Below.setCell ?_ (by first | omega | (simp; done) | (simp; omega)) _) | (refine Below.alloc ?_ (by first | omega | (simp; done) | (simp; omega)) _) | (refine Below.trans ?_ (Below.mono (by assumption) (by first | omega | (simp; done) | (simp; omega))))))⟩
    rfl
  by_cases q10 : op = 10
  · subst q10
    have e : twoP 10 a b = (xorsP a b, true) := by unfold twoP; simp only [Int.reduceEq, if_false, if_true]
    have hC := fun w => xors_any a b w ha hb
    rw [e]
    dsimp only
    generalize xorsP a b = r at *
    clear e ha hb
    go_enter Tryd.func18, Tryd.ntmps18
    go_wp2_with (go_at_call 62; refine (hC _).mono ?_; rintro e wQ ⟨rfl, hbQ⟩; obtain ⟨hcQ, hfQ⟩ := bcell hbQ; have hzQ := hbQ.size; simp at hzQ)
    clear hC
    refine bodyPost_ret (by simp [results, Tryd.results18, go_sem, *]; try rfl) rfl ⟨?_, (by repeat (first | exact Below.refl _ _ | (refine Below.drew ?_) | (refine below_drewN ?_ _) | (refine Below.setCell ?_ (by first | omega | (simp; done) | (simp; omega)) _) | (refine Below.alloc ?_ (by first | omega | (simp; done) | (simp; omega)) _) | (refine Below.trans ?_ (Below.mono (by assumption) (by first | omega | (simp; done) | (simp; omega))))))⟩
    rfl
  by_cases q11 : op = 11
  · subst q11
    have e : twoP 11 a b = (lessP a b, true) := by unfold twoP; simp only [Int.reduceEq, if_false, if_true]
    have hC := fun w => lesses_any a b w
    rw [e]
    dsimp only
    generalize lessP a b = r at *
    clear e ha hb
    go_enter Tryd.func18, Tryd.ntmps18
    go_wp2_with (go_at_call 63; refine (hC _).mono ?_; rintro e wQ ⟨rfl, hbQ⟩; obtain ⟨hcQ, hfQ⟩ := bcell hbQ; have hzQ := hbQ.size; simp at hzQ)
    clear hC
    refine bodyPost_ret (by simp [results, Tryd.results18, go_sem, *]; try rfl) rfl ⟨?_, (by repeat (first | exact Below.refl _ _ | (refine Below.drew ?_) | (refine below_drewN ?_ _) | (refine Below.setCell ?_ (by first | omega | (simp; done) | (simp; omega)) _) | (refine Below.alloc ?_ (by first | omega | (simp; done) | (simp; omega)) _) | (refine Below.trans ?_ (Below.mono (by assumption) (by first | omega | (simp; done) | (simp; omega))))))⟩
    rfl
  by_cases q12 : op = 12
  · subst q12
    have e : twoP 12 a b = (sameP a b, true) := by unfold twoP; simp only [Int.reduceEq, if_false, if_true]
    have hC := fun w => sames_any a.1 a.2 b.1 b.2 w ha hb
    rw [e]
    dsimp only
    generalize sameP a b = r at *
    clear e ha hb
    go_enter Tryd.func18, Tryd.ntmps18
    go_wp2_with (go_at_call 64; refine (hC _).mono ?_; rintro e wQ ⟨rfl, hbQ⟩; obtain ⟨hcQ, hfQ⟩ := bcell hbQ; have hzQ := hbQ.size; simp at hzQ)
    clear hC
    refine bodyPost_ret (by simp [results, Tryd.results18, go_sem, *]; try rfl) rfl ⟨?_, (by repeat (first | exact Below.refl _ _ | (refine Below.drew ?_) | (refine below_drewN ?_ _) | (refine Below.setCell ?_ (by first | omega | (simp; done) | (simp; omega)) _) | (refine Below.alloc ?_ (by first | omega | (simp; done) | (simp; omega)) _) | (refine Below.trans ?_ (Below.mono (by assumption) (by first | omega | (simp; done) | (simp; omega))))))⟩
    rfl
  have e : twoP op a b = ((0, 0), false) := by unfold twoP; rw [if_neg q4, if_neg q5, if_neg q6, if_neg q7, if_neg q8, if_neg q9, if_neg q10, if_neg q11, if_neg q12]
  rw [e]
  clear e ha hb
  go_enter Tryd.func18, Tryd.ntmps18
  go_wp2_with fail
  refine bodyPost_ret (by simp [results, Tryd.results18, go_sem]; try rfl) rfl ⟨?_, (by repeat (first | exact Below.refl _ _ | (refine Below.drew ?_) | (refine below_drewN ?_ _) | (refine Below.setCell ?_ (by first | omega | (simp; done) | (simp; omega)) _) | (refine Below.alloc ?_ (by first | omega | (simp; done) | (simp; omega)) _) | (refine Below.trans ?_ (Below.mono (by assumption) (by first | omega | (simp; done) | (simp; omega))))))⟩
  rfl
end Go.Proofs.YthiacdbjlkpfgaaDoor
namespace Go.Proofs.YthiacdbjlkpfgaaDoor
open Go.RowKit
/-- the table of pairs: by 9 * (op - 4) + 3 * i + j -/
def stab : List (BitVec 3) := [7, 1, 7, 1, 2, 4, 7, 4, 5, 7, 1, 5, 5, 2, 1, 5, 4, 7, 7, 2, 7, 2, 2, 2, 7, 2, 7, 7, 0, 3, 2, 0, 2, 3, 0, 6, 3, 0, 3, 2, 0, 2, 6, 0, 6, 1, 2, 6, 2, 2, 2, 6, 2, 6, 6, 1, 1, 1, 2, 4, 1, 4, 6, 6, 4, 4, 2, 2, 4, 2, 2, 6, 6, 2, 2, 2, 4, 2, 2, 2, 6]
def stb (n : Nat) : BitVec 3 := stab.getD n 0
/-- what the variable gives a walk -/
def GlobS (w : World) : Prop := ∀ n, n < 81 → w.cell? ⟨0, n, none⟩ = some (.int .i64 (up (stb n)))
/-- one pair -/
def sPair (o : Nat) (x y : BitVec 3) (i j : Nat) : BitVec 3 := if bt x i && bt y j then stb (o * 9 + (3 * i + j)) else 0
def sRow (o : Nat) (x y : BitVec 3) (i : Nat) : Nat → BitVec 3
  | 0 => 0
  | j + 1 => sRow o x y i j ||| sPair o x y i j
def sAll (o : Nat) (x y : BitVec 3) : Nat → BitVec 3
  | 0 => 0
  | i + 1 => sAll o x y i ||| sRow o x y i 3
def twoS (op : Int) (x y : BitVec 3) : BitVec 3 := if 4 ≤ op ∧ op ≤ 12 then sAll (op - 4).toNat x y 3 else 0
theorem stwo_no (op a b : Int) (w : World) (h : op < 4 ∨ 12 < op) : Calls Tryd.prog 19 #[.int .i64 op, .int .i64 a, .int .i64 b] w fun e w' => e = .returned (.int .i64 (up (twoS op (low a) (low b)))) ∧ w' = w := by
  have h2 : ¬ (4 ≤ op ∧ op ≤ 12) := by omega
  rcases h with h | h
  · go_enter Tryd.func19, Tryd.ntmps19
    go_wp2
    go_ret
    exact ⟨ret_int (by simp [twoS, h2]; rfl), rfl⟩
  · have h3 : ¬ op < 4 := by omega
    go_enter Tryd.func19, Tryd.ntmps19
    go_wp2
    go_ret
    exact ⟨ret_int (by simp [twoS, h2]; rfl), rfl⟩
set_option maxHeartbeats 4000000 in
theorem stwo_in (o : Nat) (ho : o < 9) (a b : Int) (w : World) (G : GlobS w) : Calls Tryd.prog 19 #[.int .i64 ((o : Int) + 4), .int .i64 a, .int .i64 b] w fun e w' => e = .returned (.int .i64 (up (sAll o (low a) (low b) 3))) ∧ w' = w := by
  go_enter Tryd.func19, Tryd.ntmps19
  go_wp2
  go_loop [7, 16] (fun s i => ∃ k : Nat, k ≤ 3 ∧ i = .int .i64 k ∧ s = .int .i64 (up (sAll o (low a) (low b) k))) (fun _ i => 3 - (intOf i).toNat)
  case atStart => exact ⟨0, Nat.zero_le _, rfl, rfl⟩
  case round =>
    obtain ⟨k, hk, rfl, rfl⟩ := hrel
    by_cases hlt : k < 3
    · go_wp2
      go_loop [7, 19] (fun s i => ∃ j : Nat, j ≤ 3 ∧ i = .int .i64 j ∧ s = .int .i64 (up (sAll o (low a) (low b) k ||| sRow o (low a) (low b) k j))) (fun _ i => 3 - (intOf i).toNat)
      case atStart => exact ⟨0, Nat.zero_le _, rfl, by simp [sRow]⟩
      case round =>
        obtain ⟨j, hj, rfl, rfl⟩ := hrel
        by_cases hlt2 : j < 3
        · have hA := low_shr a k hlt
          have hB := low_shr b j hlt2
          have HP : Hid (sRow o (low a) (low b) k (j + 1) = sRow o (low a) (low b) k j ||| sPair o (low a) (low b) k j) := rfl
          by_cases hx : bt (low a) k = true
          · rw [if_pos hx] at hA
            by_cases hy : bt (low b) j = true
            · rw [if_pos hy] at hB
              have hc : w.cell? ⟨0, o * 9 + (3 * k + j), none⟩ = some (.int .i64 (up (stb (o * 9 + (3 * k + j))))) := G _ (by omega)
              go_wp2
              go_round
              case rel => exact ⟨j + 1, by omega, by go_num, by rw [or_up, HP.out, ← BitVec.or_assoc]; simp [sPair, hx, hy]⟩
              case measure => simp [intOf]; omega
            · rw [if_neg hy] at hB
              go_wp2
              go_round
              case rel => exact ⟨j + 1, by omega, by go_num, by rw [HP.out]; simp [sPair, hx, hy]⟩
              case measure => simp [intOf]; omega
          · rw [if_neg hx] at hA
            go_wp2
            go_round
            case rel => exact ⟨j + 1, by omega, by go_num, by rw [HP.out]; simp [sPair, hx]⟩
            case measure => simp [intOf]; omega
        · go_wp2
          go_round
          case rel =>
            obtain rfl : j = 3 := by omega
            exact ⟨k + 1, by omega, by go_num, rfl⟩
          case measure => simp [intOf]; omega
    · go_wp2
      go_ret
      obtain rfl : k = 3 := by omega
      exact ⟨rfl, rfl⟩
theorem stwo_any (op a b : Int) (w : World) (G : GlobS w) : Calls Tryd.prog 19 #[.int .i64 op, .int .i64 a, .int .i64 b] w fun e w' => e = .returned (.int .i64 (up (twoS op (low a) (low b)))) ∧ w' = w := by
  by_cases h : 4 ≤ op ∧ op ≤ 12
  · obtain ⟨o, rfl⟩ : ∃ o : Nat, op = (o : Int) + 4 := ⟨(op - 4).toNat, by omega⟩
    refine (stwo_in o (by omega) a b w G).mono ?_
    rintro e w' ⟨rfl, rfl⟩
    exact ⟨ret_int (by rw [twoS, if_pos h]; congr 2; omega), rfl⟩
  · exact stwo_no op a b w (by omega)
end Go.Proofs.YthiacdbjlkpfgaaDoor
namespace Go.Proofs.YthiacdbjlkpfgaaDoor
open Go.RowKit
/-- the table of pairs: by 4 * (op - 4) + 2 * i + j -/
def ptab : List (BitVec 3) := [1, 2, 2, 1, 1, 2, 2, 1, 1, 1, 1, 2, 3, 3, 3, 3, 1, 3, 2, 3, 1, 1, 1, 2, 1, 2, 2, 1, 3, 3, 3, 3, 3, 1, 1, 3]
def ptb (n : Nat) : BitVec 3 := ptab.getD n 0
/-- what the variable gives a walk -/
def GlobP (w : World) : Prop := ∀ n, n < 36 → w.cell? ⟨1, n, none⟩ = some (.int .i64 (up (ptb n)))
/-- one pair -/
def pPair (o : Nat) (x y : BitVec 3) (i j : Nat) : BitVec 3 := if bt x i && bt y j then ptb (o * 4 + (2 * i + j)) else 0
def pRow (o : Nat) (x y : BitVec 3) (i : Nat) : Nat → BitVec 3
  | 0 => 0
  | j + 1 => pRow o x y i j ||| pPair o x y i j
def pAll (o : Nat) (x y : BitVec 3) : Nat → BitVec 3
  | 0 => 0
  | i + 1 => pAll o x y i ||| pRow o x y i 2
def twoQ (op : Int) (x y : BitVec 3) : BitVec 3 := if 4 ≤ op ∧ op ≤ 12 then pAll (op - 4).toNat x y 2 else 0
theorem ptwo_no (op a b : Int) (w : World) (h : op < 4 ∨ 12 < op) : Calls Tryd.prog 20 #[.int .i64 op, .int .i64 a, .int .i64 b] w fun e w' => e = .returned (.int .i64 (up (twoQ op (low a) (low b)))) ∧ w' = w := by
  have h2 : ¬ (4 ≤ op ∧ op ≤ 12) := by omega
  rcases h with h | h
  · go_enter Tryd.func20, Tryd.ntmps20
    go_wp2
    go_ret
    exact ⟨ret_int (by simp [twoQ, h2]; rfl), rfl⟩
  · have h3 : ¬ op < 4 := by omega
    go_enter Tryd.func20, Tryd.ntmps20
    go_wp2
    go_ret
    exact ⟨ret_int (by simp [twoQ, h2]; rfl), rfl⟩
set_option maxHeartbeats 4000000 in
theorem ptwo_in (o : Nat) (ho : o < 9) (a b : Int) (w : World) (G : GlobP w) : Calls Tryd.prog 20 #[.int .i64 ((o : Int) + 4), .int .i64 a, .int .i64 b] w fun e w' => e = .returned (.int .i64 (up (pAll o (low a) (low b) 2))) ∧ w' = w := by
  go_enter Tryd.func20, Tryd.ntmps20
  go_wp2
  go_loop [7, 16] (fun s i => ∃ k : Nat, k ≤ 2 ∧ i = .int .i64 k ∧ s = .int .i64 (up (pAll o (low a) (low b) k))) (fun _ i => 2 - (intOf i).toNat)
  case atStart => exact ⟨0, Nat.zero_le _, rfl, rfl⟩
  case round =>
    obtain ⟨k, hk, rfl, rfl⟩ := hrel
    by_cases hlt : k < 2
    · go_wp2
      go_loop [7, 19] (fun s i => ∃ j : Nat, j ≤ 2 ∧ i = .int .i64 j ∧ s = .int .i64 (up (pAll o (low a) (low b) k ||| pRow o (low a) (low b) k j))) (fun _ i => 2 - (intOf i).toNat)
      case atStart => exact ⟨0, Nat.zero_le _, rfl, by simp [pRow]⟩
      case round =>
        obtain ⟨j, hj, rfl, rfl⟩ := hrel
        by_cases hlt2 : j < 2
        · have hA := low_shr a k (by omega)
          have hB := low_shr b j (by omega)
          have HP : Hid (pRow o (low a) (low b) k (j + 1) = pRow o (low a) (low b) k j ||| pPair o (low a) (low b) k j) := rfl
          by_cases hx : bt (low a) k = true
          · rw [if_pos hx] at hA
            by_cases hy : bt (low b) j = true
            · rw [if_pos hy] at hB
              have hc : w.cell? ⟨1, o * 4 + (2 * k + j), none⟩ = some (.int .i64 (up (ptb (o * 4 + (2 * k + j))))) := G _ (by omega)
              go_wp2
              go_round
              case rel => exact ⟨j + 1, by omega, by go_num, by rw [or_up, HP.out, ← BitVec.or_assoc]; simp [pPair, hx, hy]⟩
              case measure => simp [intOf]; omega
            · rw [if_neg hy] at hB
              go_wp2
              go_round
              case rel => exact ⟨j + 1, by omega, by go_num, by rw [HP.out]; simp [pPair, hx, hy]⟩
              case measure => simp [intOf]; omega
          · rw [if_neg hx] at hA
            go_wp2
            go_round
            case rel => exact ⟨j + 1, by omega, by go_num, by rw [HP.out]; simp [pPair, hx]⟩
            case measure => simp [intOf]; omega
        · go_wp2
          go_round
          case rel =>
            obtain rfl : j = 2 := by omega
            exact ⟨k + 1, by omega, by go_num, rfl⟩
          case measure => simp [intOf]; omega
    · go_wp2
      go_ret
      obtain rfl : k = 2 := by omega
      exact ⟨rfl, rfl⟩
theorem ptwo_any (op a b : Int) (w : World) (G : GlobP w) : Calls Tryd.prog 20 #[.int .i64 op, .int .i64 a, .int .i64 b] w fun e w' => e = .returned (.int .i64 (up (twoQ op (low a) (low b)))) ∧ w' = w := by
  by_cases h : 4 ≤ op ∧ op ≤ 12
  · obtain ⟨o, rfl⟩ : ∃ o : Nat, op = (o : Int) + 4 := ⟨(op - 4).toNat, by omega⟩
    refine (ptwo_in o (by omega) a b w G).mono ?_
    rintro e w' ⟨rfl, rfl⟩
    exact ⟨ret_int (by rw [twoQ, if_pos h]; congr 2; omega), rfl⟩
  · exact ptwo_no op a b w (by omega)
end Go.Proofs.YthiacdbjlkpfgaaDoor
