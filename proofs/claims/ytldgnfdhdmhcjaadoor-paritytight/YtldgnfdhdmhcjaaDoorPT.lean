import Derived.Test.YtldgnfdhdmhcjaaDoorPW
namespace Go.Proofs.YtldgnfdhdmhcjaaDoor
open Go.RowKit
set_option maxHeartbeats 4000000 in
theorem ptight_walk (op a b : Int) (w : World) (G : GlobP w) : Calls Tryd.prog 11 #[.int .i64 op, .int .i64 a, .int .i64 b] w fun e w' => e = .returned (.bool true) ∧ Below w.heap.size w w' := by
  have z0 : low 0 = 0#3 := rfl
  have z01 : twoP op 0#3 (low b) = 0#3 := twop_zero1 op (low b)
  have z02 : twoP op (low a) 0#3 = 0#3 := twop_zero2 op (low a)
  have z03 : oneP op 0#3 = 0#3 := by unfold oneP; repeat (first | rfl | split)
  have z04 : up 0#3 = 0 := rfl
  have HALL : Hid (mAll op (low a) (low b) 16 = twoP op (low a) (low b)) := mall_all op (low a) (low b)
  go_enter Tryd.func11, Tryd.ntmps11
  go_wp2_with (first | (go_at_call 30; refine (nums_ns _).mono ?_; rintro e w1 ⟨rfl, HN0⟩))
  have HN : Hid (Ns w w.heap.size w1) := HN0
  clear HN0
  generalize hB : w.heap.size = B at HN ⊢
  have HBB : Hid (w.heap.size = B) := hB
  clear hB
  go_loopw [7, 9] (fun s i wr => ∃ k : Nat, k ≤ 16 ∧ i = .int .i64 k ∧ s = .int .i64 (up (mAll op (low a) (low b) k)) ∧ Hid (Ns w B wr)) (fun _ i _ => 16 - (intOf i).toNat)
  case atStart => exact ⟨0, Nat.zero_le _, rfl, rfl, HN⟩
  case round =>
    obtain ⟨k, hk, rfl, rfl, HK⟩ := hrel
    by_cases hlt : k < 16
    · have z1 : (0 : Int) ≤ (k : Int) := by omega
      have z3 : (k : Int) < 16 := by omega
      go_wp2
      go_loopw [7, 10] (fun s i wr => ∃ j : Nat, j ≤ 16 ∧ i = .int .i64 j ∧ s = .int .i64 (up (mAll op (low a) (low b) k ||| mRow op (low a) (low b) k j)) ∧ Hid (Ns w B wr)) (fun _ i _ => 16 - (intOf i).toNat)
      case atStart => exact ⟨0, Nat.zero_le _, rfl, by simp [mRow], HK⟩
      case round =>
        obtain ⟨j, hj, rfl, rfl, HJ⟩ := hrel
        by_cases hlt2 : j < 16
        · have c1 := HJ.out.nl k hlt
          have c2 := HJ.out.nl j hlt2
          have z2 : (0 : Int) ≤ (j : Int) := by omega
          have z4 : (j : Int) < 16 := by omega
          have i1 := num_i64 k hlt
          have i2 := num_i64 j hlt2
          have HP : Hid (mRow op (low a) (low b) k (j + 1) = mRow op (low a) (low b) k j ||| pCell op (low a) (low b) k j) := rfl
          have HC : Hid (pCell op (low a) (low b) k j = if (arith op (num k) (num j)).2 && hasP (low a) (num k) && hasP (low b) (num j) then pr (arith op (num k) (num j)).1 else 0) := rfl
          go_wp2
          go_quiet ((go_at_call 29; exact Calls.quiet_of_same (arith_ref _ _ _ _ i1 i2)))
          by_cases q1 : (arith op (num k) (num j)).2 = true
          · by_cases q2 : hasP (low a) (num k) = true
            · by_cases q3 : hasP (low b) (num j) = true
              · go_wp2_with (first | (go_at_call 35; refine (phas_any _ _ _).mono ?_; rintro e w' ⟨rfl, rfl⟩) | (go_at_call 34; refine (pofr_any _ (arith_i64 _ _ _ (by assumption)) _).mono ?_; rintro e w' ⟨rfl, rfl⟩))
                go_roundw
                case rel => exact ⟨j + 1, by omega, by go_num, by rw [or_up, HP.out, HC.out, q1, q2, q3, BitVec.or_assoc]; rfl, HJ.out.drewN _⟩
                case measure => simp [intOf]; omega
              · go_wp2_with (first | (go_at_call 35; refine (phas_any _ _ _).mono ?_; rintro e w' ⟨rfl, rfl⟩) | (go_at_call 34; refine (pofr_any _ (arith_i64 _ _ _ (by assumption)) _).mono ?_; rintro e w' ⟨rfl, rfl⟩))
                go_roundw
                case rel => exact ⟨j + 1, by omega, by go_num, by rw [HP.out, HC.out, q1, q2, Bool.eq_false_iff.2 q3]; simp, HJ.out.drewN _⟩
                case measure => simp [intOf]; omega
            · go_wp2_with (first | (go_at_call 35; refine (phas_any _ _ _).mono ?_; rintro e w' ⟨rfl, rfl⟩) | (go_at_call 34; refine (pofr_any _ (arith_i64 _ _ _ (by assumption)) _).mono ?_; rintro e w' ⟨rfl, rfl⟩))
              go_roundw
              case rel => exact ⟨j + 1, by omega, by go_num, by rw [HP.out, HC.out, q1, Bool.eq_false_iff.2 q2]; simp, HJ.out.drewN _⟩
              case measure => simp [intOf]; omega
          · go_wp2_with (first | (go_at_call 35; refine (phas_any _ _ _).mono ?_; rintro e w' ⟨rfl, rfl⟩) | (go_at_call 34; refine (pofr_any _ (arith_i64 _ _ _ (by assumption)) _).mono ?_; rintro e w' ⟨rfl, rfl⟩))
            go_roundw
            case rel => exact ⟨j + 1, by omega, by go_num, by rw [HP.out, HC.out, Bool.eq_false_iff.2 q1]; simp, HJ.out.drewN _⟩
            case measure => simp [intOf]; omega
        · go_wp2
          go_roundw
          case rel =>
            obtain rfl : j = 16 := by omega
            exact ⟨k + 1, by omega, by go_num, rfl, HJ⟩
          case measure => simp [intOf]; omega
    · obtain rfl : k = 16 := by omega
      have GK : GlobP wr := G.keep HK.out.bel
      have hall := HALL.out
      go_wp2_with (first
        | (go_at_call 31; refine (ptold_any _ GK).mono ?_; rintro e w' ⟨rfl, rfl⟩)
        | (go_at_call 42; refine (ptwo_any _ _ _ _ GK).mono ?_; rintro e w' ⟨rfl, rfl⟩)
        | (go_at_call 40; refine (pone_any _ _ _).mono ?_; rintro e w' ⟨rfl, rfl⟩))
      go_ret
      exact ⟨rfl, HK.out.bel⟩
end Go.Proofs.YtldgnfdhdmhcjaaDoor
