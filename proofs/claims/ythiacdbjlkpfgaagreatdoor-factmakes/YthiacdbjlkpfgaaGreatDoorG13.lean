import Derived.Test.YthiacdbjlkpfgaaGreatDoorG05
import Derived.Test.YthiacdbjlkpfgaaGreatDoorG06
import Derived.Test.YthiacdbjlkpfgaaGreatDoorG11
namespace Go.Proofs.YthiacdbjlkpfgaaGreatDoor
open Go.RowKit
set_option maxHeartbeats 4000000 in
theorem sames_any (al ah bl bh : Int) (w : World) (ha : Sp (al, ah)) (hb : Sp (bl, bh)) : Calls Tryz.prog 86 #[.agg #[.int .i64 al, .int .i64 ah], .agg #[.int .i64 bl, .int .i64 bh]] w fun e w' => e = .returned (.agg #[.int .i64 (sameP (al, ah) (bl, bh)).1, .int .i64 (sameP (al, ah) (bl, bh)).2]) ∧ Below w.heap.size w w' := by
  unfold Sp at ha hb
  obtain ⟨a1, a2, a3⟩ := ha
  obtain ⟨b1, b2, b3⟩ := hb
  dsimp only at a1 a2 a3 b1 b2 b3
  by_cases h1 : ah < bl ∨ bh < al
  · have hm : meetP (al, ah) (bl, bh) = ((0, 0), false) := by unfold meetP; rw [if_neg (by dsimp only; omega)]
    have HS : Hid (sameP (al, ah) (bl, bh) = (0, 0)) := by unfold Hid sameP; rw [if_pos h1]
    clear h1
    go_enter Tryz.func86, Tryz.ntmps86
    go_wp2_with (first | (go_at_call 65; refine (nof_any _ _).mono ?_; rintro e w1 ⟨rfl, o1, rfl⟩) | (go_at_call 68; refine (nmeet_any (al, ah) (bl, bh) _).mono ?_; rintro e w1 ⟨rfl, o1, o2, o3, o4, o5, rfl⟩))
    all_goals (refine bodyPost_ret (by simp [results, Tryz.results86, go_sem]; try rfl) rfl ⟨?_, (by repeat (first | exact Below.refl _ _ | (refine Below.drew ?_) | (refine below_drewN ?_ _) | (refine Below.setCell ?_ (by first | omega | (simp; done) | (simp; omega)) _) | (refine Below.alloc ?_ (by first | omega | (simp; done) | (simp; omega)) _) | (refine Below.trans ?_ (Below.mono (by assumption) (by first | omega | (simp; done) | (simp; omega))))))⟩; rw [HS.out])
  · have hm : (meetP (al, ah) (bl, bh)).2 = true := by unfold meetP; rw [if_pos (by dsimp only; omega)]
    by_cases h2 : al = bl
    · subst h2
      by_cases h3 : ah = bh
      · subst h3
        by_cases h4 : al = ah
        · subst h4
          go_enter Tryz.func86, Tryz.ntmps86
          go_wp2_with (first | (go_at_call 65; refine (nof_any _ _).mono ?_; rintro e w1 ⟨rfl, o1, rfl⟩) | (go_at_call 68; refine (nmeet_any (al, al) (al, al) _).mono ?_; rintro e w1 ⟨rfl, o1, o2, o3, o4, o5, rfl⟩))
          all_goals (refine bodyPost_ret (by simp [results, Tryz.results86, go_sem]; try rfl) rfl ⟨?_, (by repeat (first | exact Below.refl _ _ | (refine Below.drew ?_) | (refine below_drewN ?_ _) | (refine Below.setCell ?_ (by first | omega | (simp; done) | (simp; omega)) _) | (refine Below.alloc ?_ (by first | omega | (simp; done) | (simp; omega)) _) | (refine Below.trans ?_ (Below.mono (by assumption) (by first | omega | (simp; done) | (simp; omega))))))⟩; exact ret_s (by unfold sameP; repeat' (first | rfl | omega | (dsimp only; omega) | split | (exfalso; omega))) (by unfold sameP; repeat' (first | rfl | omega | (dsimp only; omega) | split | (exfalso; omega))))
        · go_enter Tryz.func86, Tryz.ntmps86
          go_wp2_with (first | (go_at_call 65; refine (nof_any _ _).mono ?_; rintro e w1 ⟨rfl, o1, rfl⟩) | (go_at_call 68; refine (nmeet_any (al, ah) (al, ah) _).mono ?_; rintro e w1 ⟨rfl, o1, o2, o3, o4, o5, rfl⟩))
          all_goals (refine bodyPost_ret (by simp [results, Tryz.results86, go_sem]; try rfl) rfl ⟨?_, (by repeat (first | exact Below.refl _ _ | (refine Below.drew ?_) | (refine below_drewN ?_ _) | (refine Below.setCell ?_ (by first | omega | (simp; done) | (simp; omega)) _) | (refine Below.alloc ?_ (by first | omega | (simp; done) | (simp; omega)) _) | (refine Below.trans ?_ (Below.mono (by assumption) (by first | omega | (simp; done) | (simp; omega))))))⟩; exact ret_s (by unfold sameP; repeat' (first | rfl | omega | (dsimp only; omega) | split | (exfalso; omega))) (by unfold sameP; repeat' (first | rfl | omega | (dsimp only; omega) | split | (exfalso; omega))))
      · go_enter Tryz.func86, Tryz.ntmps86
        go_wp2_with (first | (go_at_call 65; refine (nof_any _ _).mono ?_; rintro e w1 ⟨rfl, o1, rfl⟩) | (go_at_call 68; refine (nmeet_any (al, ah) (al, bh) _).mono ?_; rintro e w1 ⟨rfl, o1, o2, o3, o4, o5, rfl⟩))
        all_goals (refine bodyPost_ret (by simp [results, Tryz.results86, go_sem]; try rfl) rfl ⟨?_, (by repeat (first | exact Below.refl _ _ | (refine Below.drew ?_) | (refine below_drewN ?_ _) | (refine Below.setCell ?_ (by first | omega | (simp; done) | (simp; omega)) _) | (refine Below.alloc ?_ (by first | omega | (simp; done) | (simp; omega)) _) | (refine Below.trans ?_ (Below.mono (by assumption) (by first | omega | (simp; done) | (simp; omega))))))⟩; exact ret_s (by unfold sameP; repeat' (first | rfl | omega | (dsimp only; omega) | split | (exfalso; omega))) (by unfold sameP; repeat' (first | rfl | omega | (dsimp only; omega) | split | (exfalso; omega))))
    · go_enter Tryz.func86, Tryz.ntmps86
      go_wp2_with (first | (go_at_call 65; refine (nof_any _ _).mono ?_; rintro e w1 ⟨rfl, o1, rfl⟩) | (go_at_call 68; refine (nmeet_any (al, ah) (bl, bh) _).mono ?_; rintro e w1 ⟨rfl, o1, o2, o3, o4, o5, rfl⟩))
      all_goals (refine bodyPost_ret (by simp [results, Tryz.results86, go_sem]; try rfl) rfl ⟨?_, (by repeat (first | exact Below.refl _ _ | (refine Below.drew ?_) | (refine below_drewN ?_ _) | (refine Below.setCell ?_ (by first | omega | (simp; done) | (simp; omega)) _) | (refine Below.alloc ?_ (by first | omega | (simp; done) | (simp; omega)) _) | (refine Below.trans ?_ (Below.mono (by assumption) (by first | omega | (simp; done) | (simp; omega))))))⟩; exact ret_s (by unfold sameP; repeat' (first | rfl | omega | (dsimp only; omega) | split | (exfalso; omega))) (by unfold sameP; repeat' (first | rfl | omega | (dsimp only; omega) | split | (exfalso; omega))))
end Go.Proofs.YthiacdbjlkpfgaaGreatDoor
namespace Go.Proofs.YthiacdbjlkpfgaaGreatDoor
open Go.RowKit
theorem len_small (m : Nat) (h : m < 256) : wrap64 (bitLen m : Int) = bitLen m := by
  have := bitLen_le8 m h
  exact wrap_fit _ (by omega) (by omega)
/-- b bits below those of y -/
theorem len_up (x y : Int) (b p : Nat) (hp : p = 2 ^ b) (hb : b ≤ 56) (hy : y.toNat = x.toNat / p) (hn : y.toNat ≠ 0) (h8 : y.toNat < 256) : wrap64 ((b : Int) + wrap64 (bitLen y.toNat : Int)) = bitLen x.toNat := by
  subst hp
  rw [len_small _ h8]
  have := bitLen_le8 _ h8
  rw [wrap_fit _ (by omega) (by omega), bitLen_shift x.toNat b (by rw [← hy]; exact hn), ← hy]
  push_cast
  rfl
set_option maxHeartbeats 8000000 in
set_option maxRecDepth 100000 in
theorem len64_any (x : Int) (w : World) (h0 : 0 ≤ x) (h1 : x ≤ 18446744073709551615) : Calls Tryz.prog 114 #[.int .u64 x] w fun e w' => e = .returned (.int .i64 (bitLen x.toNat)) ∧ w' = w := by
  go_enter Tryz.func114, Tryz.ntmps114
  go_wp2
  all_goals (go_ret; refine ⟨congrArg Ending.returned (congrArg (Value.int IntKind.i64) ?_), rfl⟩)
  all_goals rw [len8tab_get]
  all_goals (first
    | exact len_up x _ 56 72057594037927936 (by decide) (by decide) (by omega) (by omega) (by omega)
    | exact len_up x _ 48 281474976710656 (by decide) (by decide) (by omega) (by omega) (by omega)
    | exact len_up x _ 40 1099511627776 (by decide) (by decide) (by omega) (by omega) (by omega)
    | exact len_up x _ 32 4294967296 (by decide) (by decide) (by omega) (by omega) (by omega)
    | exact len_up x _ 24 16777216 (by decide) (by decide) (by omega) (by omega) (by omega)
    | exact len_up x _ 16 65536 (by decide) (by decide) (by omega) (by omega) (by omega)
    | exact len_up x _ 8 256 (by decide) (by decide) (by omega) (by omega) (by omega)
    | (simp only [len_small _ (show x.toNat < 256 by omega)]; done))
theorem pow_ones (n : Int) (h1 : n ≤ 9223372036854775807) : wrap64 (IntKind.u64.wrap (IntKind.u64.wrap (2 ^ bitLen n.toNat) - 1)) = onesI n := by
  have e := bitLen_63 n h1
  have e3 : 2 ^ bitLen n.toNat ≤ 2 ^ 63 := Nat.pow_le_pow_right (by omega) e
  have e4 : 0 < 2 ^ bitLen n.toNat := Nat.pow_pos (by omega)
  unfold onesI
  have hc : ((2 : Int) ^ bitLen n.toNat) = ((2 ^ bitLen n.toNat : Nat) : Int) := by push_cast; rfl
  rw [hc]
  generalize 2 ^ bitLen n.toNat = p at *
  rw [IntKind.wrap_u64, IntKind.wrap_u64]
  unfold wrap64
  omega
set_option maxRecDepth 100000 in
theorem ones_any (n : Int) (w : World) (h0 : 0 ≤ n) (h1 : n ≤ 9223372036854775807) : Calls Tryz.prog 110 #[.int .i64 n] w fun e w' => e = .returned (.int .i64 (onesI n)) ∧ w' = w := by
  have hl := bitLen_63 n h1
  go_enter Tryz.func110, Tryz.ntmps110
  go_wp2_with (go_at_call 114; refine (len64_any _ _ (by omega) (by omega)).mono ?_; rintro e w1 ⟨rfl, rfl⟩)
  go_ret
  exact ⟨ret_i (pow_ones n h1).symm, rfl⟩
end Go.Proofs.YthiacdbjlkpfgaaGreatDoor
namespace Go.Proofs.YthiacdbjlkpfgaaGreatDoor
open Go.RowKit
set_option maxHeartbeats 8000000 in
theorem xors_pp1 (a b : Int × Int) (w : World) (ha : Sp a) (hb : Sp b) (h1 : 0 ≤ a.1) (h2 : 0 ≤ b.1) (h3 : a.2 < b.2) : Calls Tryz.prog 84 #[.agg #[.int .i64 a.1, .int .i64 a.2], .agg #[.int .i64 b.1, .int .i64 b.2]] w fun e w' => e = .returned (.agg #[.int .i64 (xorsP a b).1, .int .i64 (xorsP a b).2]) ∧ Below w.heap.size w w' := by
  unfold Sp at ha hb
  obtain ⟨a1, a2, a3⟩ := ha
  obtain ⟨b1, b2, b3⟩ := hb
  have HX : Hid (xorsP a b = (0, onesI b.2)) := by
    unfold Hid xorsP
    rw [if_pos ⟨h1, h2⟩, Int.max_eq_right (by omega)]
  have B := ones_bd (b.2) (by omega)
  go_enter Tryz.func84, Tryz.ntmps84
  go_wp2_with (first | (go_at_call 75; refine (nany_any _).mono ?_; rintro e w1 ⟨rfl, o1, rfl⟩) | (go_at_call 110; refine (ones_any _ _ (by omega) (by omega)).mono ?_; rintro e w1 ⟨rfl, rfl⟩))
  all_goals (refine bodyPost_ret (by simp [results, Tryz.results84, go_sem]; try rfl) rfl ⟨?_, (by repeat (first | exact Below.refl _ _ | (refine Below.drew ?_) | (refine below_drewN ?_ _) | (refine Below.setCell ?_ (by first | omega | (simp; done) | (simp; omega)) _) | (refine Below.alloc ?_ (by first | omega | (simp; done) | (simp; omega)) _) | (refine Below.trans ?_ (Below.mono (by assumption) (by first | omega | (simp; done) | (simp; omega))))))⟩; rw [HX.out])
set_option maxHeartbeats 8000000 in
theorem xors_pp2 (a b : Int × Int) (w : World) (ha : Sp a) (hb : Sp b) (h1 : 0 ≤ a.1) (h2 : 0 ≤ b.1) (h3 : ¬ a.2 < b.2) : Calls Tryz.prog 84 #[.agg #[.int .i64 a.1, .int .i64 a.2], .agg #[.int .i64 b.1, .int .i64 b.2]] w fun e w' => e = .returned (.agg #[.int .i64 (xorsP a b).1, .int .i64 (xorsP a b).2]) ∧ Below w.heap.size w w' := by
  unfold Sp at ha hb
  obtain ⟨a1, a2, a3⟩ := ha
  obtain ⟨b1, b2, b3⟩ := hb
  have HX : Hid (xorsP a b = (0, onesI a.2)) := by
    unfold Hid xorsP
    rw [if_pos ⟨h1, h2⟩, Int.max_eq_left (by omega)]
  have B := ones_bd (a.2) (by omega)
  go_enter Tryz.func84, Tryz.ntmps84
  go_wp2_with (first | (go_at_call 75; refine (nany_any _).mono ?_; rintro e w1 ⟨rfl, o1, rfl⟩) | (go_at_call 110; refine (ones_any _ _ (by omega) (by omega)).mono ?_; rintro e w1 ⟨rfl, rfl⟩))
  all_goals (refine bodyPost_ret (by simp [results, Tryz.results84, go_sem]; try rfl) rfl ⟨?_, (by repeat (first | exact Below.refl _ _ | (refine Below.drew ?_) | (refine below_drewN ?_ _) | (refine Below.setCell ?_ (by first | omega | (simp; done) | (simp; omega)) _) | (refine Below.alloc ?_ (by first | omega | (simp; done) | (simp; omega)) _) | (refine Below.trans ?_ (Below.mono (by assumption) (by first | omega | (simp; done) | (simp; omega))))))⟩; rw [HX.out])
set_option maxHeartbeats 8000000 in
theorem xors_nn1 (a b : Int × Int) (w : World) (ha : Sp a) (hb : Sp b) (h1 : a.2 < 0) (h2 : b.2 < 0) (h3 : -1 - a.1 < -1 - b.1) : Calls Tryz.prog 84 #[.agg #[.int .i64 a.1, .int .i64 a.2], .agg #[.int .i64 b.1, .int .i64 b.2]] w fun e w' => e = .returned (.agg #[.int .i64 (xorsP a b).1, .int .i64 (xorsP a b).2]) ∧ Below w.heap.size w w' := by
  unfold Sp at ha hb
  obtain ⟨a1, a2, a3⟩ := ha
  obtain ⟨b1, b2, b3⟩ := hb
  have HX : Hid (xorsP a b = (0, onesI (-1 - b.1))) := by
    unfold Hid xorsP
    rw [if_neg (by omega), if_pos ⟨h1, h2⟩, Int.max_eq_right (by omega)]
  have B := ones_bd (-1 - b.1) (by omega)
  have h4 : ¬ 0 ≤ a.1 := by omega
  have h5 : ¬ 0 ≤ b.1 := by omega
  go_enter Tryz.func84, Tryz.ntmps84
  go_wp2_with (first | (go_at_call 75; refine (nany_any _).mono ?_; rintro e w1 ⟨rfl, o1, rfl⟩) | (go_at_call 110; refine (ones_any _ _ (by omega) (by omega)).mono ?_; rintro e w1 ⟨rfl, rfl⟩))
  all_goals (refine bodyPost_ret (by simp [results, Tryz.results84, go_sem]; try rfl) rfl ⟨?_, (by repeat (first | exact Below.refl _ _ | (refine Below.drew ?_) | (refine below_drewN ?_ _) | (refine Below.setCell ?_ (by first | omega | (simp; done) | (simp; omega)) _) | (refine Below.alloc ?_ (by first | omega | (simp; done) | (simp; omega)) _) | (refine Below.trans ?_ (Below.mono (by assumption) (by first | omega | (simp; done) | (simp; omega))))))⟩; rw [HX.out])
set_option maxHeartbeats 8000000 in
theorem xors_nn2 (a b : Int × Int) (w : World) (ha : Sp a) (hb : Sp b) (h1 : a.2 < 0) (h2 : b.2 < 0) (h3 : ¬ -1 - a.1 < -1 - b.1) : Calls Tryz.prog 84 #[.agg #[.int .i64 a.1, .int .i64 a.2], .agg #[.int .i64 b.1, .int .i64 b.2]] w fun e w' => e = .returned (.agg #[.int .i64 (xorsP a b).1, .int .i64 (xorsP a b).2]) ∧ Below w.heap.size w w' := by
  unfold Sp at ha hb
  obtain ⟨a1, a2, a3⟩ := ha
  obtain ⟨b1, b2, b3⟩ := hb
  have HX : Hid (xorsP a b = (0, onesI (-1 - a.1))) := by
    unfold Hid xorsP
    rw [if_neg (by omega), if_pos ⟨h1, h2⟩, Int.max_eq_left (by omega)]
  have B := ones_bd (-1 - a.1) (by omega)
  have h4 : ¬ 0 ≤ a.1 := by omega
  have h5 : ¬ 0 ≤ b.1 := by omega
  go_enter Tryz.func84, Tryz.ntmps84
  go_wp2_with (first | (go_at_call 75; refine (nany_any _).mono ?_; rintro e w1 ⟨rfl, o1, rfl⟩) | (go_at_call 110; refine (ones_any _ _ (by omega) (by omega)).mono ?_; rintro e w1 ⟨rfl, rfl⟩))
  all_goals (refine bodyPost_ret (by simp [results, Tryz.results84, go_sem]; try rfl) rfl ⟨?_, (by repeat (first | exact Below.refl _ _ | (refine Below.drew ?_) | (refine below_drewN ?_ _) | (refine Below.setCell ?_ (by first | omega | (simp; done) | (simp; omega)) _) | (refine Below.alloc ?_ (by first | omega | (simp; done) | (simp; omega)) _) | (refine Below.trans ?_ (Below.mono (by assumption) (by first | omega | (simp; done) | (simp; omega))))))⟩; rw [HX.out])
end Go.Proofs.YthiacdbjlkpfgaaGreatDoor
namespace Go.Proofs.YthiacdbjlkpfgaaGreatDoor
open Go.RowKit
set_option maxHeartbeats 8000000 in
theorem xors_np1 (a b : Int × Int) (w : World) (ha : Sp a) (hb : Sp b) (h1 : a.2 < 0) (h2 : 0 ≤ b.1) (h3 : -1 - a.1 < b.2) : Calls Tryz.prog 84 #[.agg #[.int .i64 a.1, .int .i64 a.2], .agg #[.int .i64 b.1, .int .i64 b.2]] w fun e w' => e = .returned (.agg #[.int .i64 (xorsP a b).1, .int .i64 (xorsP a b).2]) ∧ Below w.heap.size w w' := by
  unfold Sp at ha hb
  obtain ⟨a1, a2, a3⟩ := ha
  obtain ⟨b1, b2, b3⟩ := hb
  have HX : Hid (xorsP a b = (-1 - onesI b.2, -1)) := by
    unfold Hid xorsP
    rw [if_neg (by omega), if_neg (by omega), if_pos ⟨h1, h2⟩, Int.max_eq_right (by omega)]
  have B := ones_bd (b.2) (by omega)
  have h4 : ¬ 0 ≤ a.1 := by omega
  have h5 : ¬ b.2 < 0 := by omega
  go_enter Tryz.func84, Tryz.ntmps84
  go_wp2_with (first | (go_at_call 75; refine (nany_any _).mono ?_; rintro e w1 ⟨rfl, o1, rfl⟩) | (go_at_call 110; refine (ones_any _ _ (by omega) (by omega)).mono ?_; rintro e w1 ⟨rfl, rfl⟩))
  all_goals (refine bodyPost_ret (by simp [results, Tryz.results84, go_sem]; try rfl) rfl ⟨?_, (by repeat (first | exact Below.refl _ _ | (refine Below.drew ?_) | (refine below_drewN ?_ _) | (refine Below.setCell ?_ (by first | omega | (simp; done) | (simp; omega)) _) | (refine Below.alloc ?_ (by first | omega | (simp; done) | (simp; omega)) _) | (refine Below.trans ?_ (Below.mono (by assumption) (by first | omega | (simp; done) | (simp; omega))))))⟩; rw [HX.out])
set_option maxHeartbeats 8000000 in
theorem xors_np2 (a b : Int × Int) (w : World) (ha : Sp a) (hb : Sp b) (h1 : a.2 < 0) (h2 : 0 ≤ b.1) (h3 : ¬ -1 - a.1 < b.2) : Calls Tryz.prog 84 #[.agg #[.int .i64 a.1, .int .i64 a.2], .agg #[.int .i64 b.1, .int .i64 b.2]] w fun e w' => e = .returned (.agg #[.int .i64 (xorsP a b).1, .int .i64 (xorsP a b).2]) ∧ Below w.heap.size w w' := by
  unfold Sp at ha hb
  obtain ⟨a1, a2, a3⟩ := ha
  obtain ⟨b1, b2, b3⟩ := hb
  have HX : Hid (xorsP a b = (-1 - onesI (-1 - a.1), -1)) := by
    unfold Hid xorsP
    rw [if_neg (by omega), if_neg (by omega), if_pos ⟨h1, h2⟩, Int.max_eq_left (by omega)]
  have B := ones_bd (-1 - a.1) (by omega)
  have h4 : ¬ 0 ≤ a.1 := by omega
  have h5 : ¬ b.2 < 0 := by omega
  go_enter Tryz.func84, Tryz.ntmps84
  go_wp2_with (first | (go_at_call 75; refine (nany_any _).mono ?_; rintro e w1 ⟨rfl, o1, rfl⟩) | (go_at_call 110; refine (ones_any _ _ (by omega) (by omega)).mono ?_; rintro e w1 ⟨rfl, rfl⟩))
  all_goals (refine bodyPost_ret (by simp [results, Tryz.results84, go_sem]; try rfl) rfl ⟨?_, (by repeat (first | exact Below.refl _ _ | (refine Below.drew ?_) | (refine below_drewN ?_ _) | (refine Below.setCell ?_ (by first | omega | (simp; done) | (simp; omega)) _) | (refine Below.alloc ?_ (by first | omega | (simp; done) | (simp; omega)) _) | (refine Below.trans ?_ (Below.mono (by assumption) (by first | omega | (simp; done) | (simp; omega))))))⟩; rw [HX.out])
set_option maxHeartbeats 8000000 in
theorem xors_pn1 (a b : Int × Int) (w : World) (ha : Sp a) (hb : Sp b) (h1 : 0 ≤ a.1) (h2 : b.2 < 0) (h3 : -1 - b.1 < a.2) : Calls Tryz.prog 84 #[.agg #[.int .i64 a.1, .int .i64 a.2], .agg #[.int .i64 b.1, .int .i64 b.2]] w fun e w' => e = .returned (.agg #[.int .i64 (xorsP a b).1, .int .i64 (xorsP a b).2]) ∧ Below w.heap.size w w' := by
  unfold Sp at ha hb
  obtain ⟨a1, a2, a3⟩ := ha
  obtain ⟨b1, b2, b3⟩ := hb
  have HX : Hid (xorsP a b = (-1 - onesI a.2, -1)) := by
    unfold Hid xorsP
    rw [if_neg (by omega), if_neg (by omega), if_neg (by omega), if_pos ⟨h1, h2⟩, Int.max_eq_left (by omega)]
  have B := ones_bd (a.2) (by omega)
  have h4 : ¬ 0 ≤ b.1 := by omega
  have h5 : ¬ a.2 < 0 := by omega
  go_enter Tryz.func84, Tryz.ntmps84
  go_wp2_with (first | (go_at_call 75; refine (nany_any _).mono ?_; rintro e w1 ⟨rfl, o1, rfl⟩) | (go_at_call 110; refine (ones_any _ _ (by omega) (by omega)).mono ?_; rintro e w1 ⟨rfl, rfl⟩))
  all_goals (refine bodyPost_ret (by simp [results, Tryz.results84, go_sem]; try rfl) rfl ⟨?_, (by repeat (first | exact Below.refl _ _ | (refine Below.drew ?_) | (refine below_drewN ?_ _) | (refine Below.setCell ?_ (by first | omega | (simp; done) | (simp; omega)) _) | (refine Below.alloc ?_ (by first | omega | (simp; done) | (simp; omega)) _) | (refine Below.trans ?_ (Below.mono (by assumption) (by first | omega | (simp; done) | (simp; omega))))))⟩; rw [HX.out])
set_option maxHeartbeats 8000000 in
theorem xors_pn2 (a b : Int × Int) (w : World) (ha : Sp a) (hb : Sp b) (h1 : 0 ≤ a.1) (h2 : b.2 < 0) (h3 : ¬ -1 - b.1 < a.2) : Calls Tryz.prog 84 #[.agg #[.int .i64 a.1, .int .i64 a.2], .agg #[.int .i64 b.1, .int .i64 b.2]] w fun e w' => e = .returned (.agg #[.int .i64 (xorsP a b).1, .int .i64 (xorsP a b).2]) ∧ Below w.heap.size w w' := by
  unfold Sp at ha hb
  obtain ⟨a1, a2, a3⟩ := ha
  obtain ⟨b1, b2, b3⟩ := hb
  have HX : Hid (xorsP a b = (-1 - onesI (-1 - b.1), -1)) := by
    unfold Hid xorsP
    rw [if_neg (by omega), if_neg (by omega), if_neg (by omega), if_pos ⟨h1, h2⟩, Int.max_eq_right (by omega)]
  have B := ones_bd (-1 - b.1) (by omega)
  have h4 : ¬ 0 ≤ b.1 := by omega
  have h5 : ¬ a.2 < 0 := by omega
  go_enter Tryz.func84, Tryz.ntmps84
  go_wp2_with (first | (go_at_call 75; refine (nany_any _).mono ?_; rintro e w1 ⟨rfl, o1, rfl⟩) | (go_at_call 110; refine (ones_any _ _ (by omega) (by omega)).mono ?_; rintro e w1 ⟨rfl, rfl⟩))
  all_goals (refine bodyPost_ret (by simp [results, Tryz.results84, go_sem]; try rfl) rfl ⟨?_, (by repeat (first | exact Below.refl _ _ | (refine Below.drew ?_) | (refine below_drewN ?_ _) | (refine Below.setCell ?_ (by first | omega | (simp; done) | (simp; omega)) _) | (refine Below.alloc ?_ (by first | omega | (simp; done) | (simp; omega)) _) | (refine Below.trans ?_ (Below.mono (by assumption) (by first | omega | (simp; done) | (simp; omega))))))⟩; rw [HX.out])
end Go.Proofs.YthiacdbjlkpfgaaGreatDoor
namespace Go.Proofs.YthiacdbjlkpfgaaGreatDoor
open Go.RowKit
set_option maxHeartbeats 8000000 in
theorem xors_al1 (a b : Int × Int) (w : World) (ha : Sp a) (hb : Sp b) (h1 : a.1 < 0) (h2 : 0 ≤ a.2) : Calls Tryz.prog 84 #[.agg #[.int .i64 a.1, .int .i64 a.2], .agg #[.int .i64 b.1, .int .i64 b.2]] w fun e w' => e = .returned (.agg #[.int .i64 (xorsP a b).1, .int .i64 (xorsP a b).2]) ∧ Below w.heap.size w w' := by
  unfold Sp at ha hb
  obtain ⟨a1, a2, a3⟩ := ha
  obtain ⟨b1, b2, b3⟩ := hb
  have HX : Hid (xorsP a b = (-9223372036854775808, 9223372036854775807)) := by
    unfold Hid xorsP
    rw [if_neg (by omega), if_neg (by omega), if_neg (by omega), if_neg (by omega)]; rfl
  have h8 : ¬ 0 ≤ a.1 := by omega
  have h9 : ¬ a.2 < 0 := by omega
  rcases (by omega : (0 ≤ b.1 ∧ ¬ b.2 < 0) ∨ (¬ 0 ≤ b.1 ∧ b.2 < 0) ∨ (¬ 0 ≤ b.1 ∧ ¬ b.2 < 0)) with ⟨h3, h4⟩ | ⟨h3, h4⟩ | ⟨h3, h4⟩ <;>
  · go_enter Tryz.func84, Tryz.ntmps84
    go_wp2_with (first | (go_at_call 75; refine (nany_any _).mono ?_; rintro e w1 ⟨rfl, o1, rfl⟩) | (go_at_call 110; refine (ones_any _ _ (by omega) (by omega)).mono ?_; rintro e w1 ⟨rfl, rfl⟩))
    all_goals (refine bodyPost_ret (by simp [results, Tryz.results84, go_sem]; try rfl) rfl ⟨?_, (by repeat (first | exact Below.refl _ _ | (refine Below.drew ?_) | (refine below_drewN ?_ _) | (refine Below.setCell ?_ (by first | omega | (simp; done) | (simp; omega)) _) | (refine Below.alloc ?_ (by first | omega | (simp; done) | (simp; omega)) _) | (refine Below.trans ?_ (Below.mono (by assumption) (by first | omega | (simp; done) | (simp; omega))))))⟩; rw [HX.out])
set_option maxHeartbeats 8000000 in
theorem xors_al2 (a b : Int × Int) (w : World) (ha : Sp a) (hb : Sp b) (h0 : ¬ (a.1 < 0 ∧ 0 ≤ a.2)) (h1 : b.1 < 0) (h2 : 0 ≤ b.2) : Calls Tryz.prog 84 #[.agg #[.int .i64 a.1, .int .i64 a.2], .agg #[.int .i64 b.1, .int .i64 b.2]] w fun e w' => e = .returned (.agg #[.int .i64 (xorsP a b).1, .int .i64 (xorsP a b).2]) ∧ Below w.heap.size w w' := by
  unfold Sp at ha hb
  obtain ⟨a1, a2, a3⟩ := ha
  obtain ⟨b1, b2, b3⟩ := hb
  have HX : Hid (xorsP a b = (-9223372036854775808, 9223372036854775807)) := by
    unfold Hid xorsP
    rw [if_neg (by omega), if_neg (by omega), if_neg (by omega), if_neg (by omega)]; rfl
  have h8 : ¬ 0 ≤ b.1 := by omega
  have h9 : ¬ b.2 < 0 := by omega
  rcases (by omega : (0 ≤ a.1 ∧ ¬ a.2 < 0) ∨ (¬ 0 ≤ a.1 ∧ a.2 < 0)) with ⟨h3, h4⟩ | ⟨h3, h4⟩ <;>
  · go_enter Tryz.func84, Tryz.ntmps84
    go_wp2_with (first | (go_at_call 75; refine (nany_any _).mono ?_; rintro e w1 ⟨rfl, o1, rfl⟩) | (go_at_call 110; refine (ones_any _ _ (by omega) (by omega)).mono ?_; rintro e w1 ⟨rfl, rfl⟩))
    all_goals (refine bodyPost_ret (by simp [results, Tryz.results84, go_sem]; try rfl) rfl ⟨?_, (by repeat (first | exact Below.refl _ _ | (refine Below.drew ?_) | (refine below_drewN ?_ _) | (refine Below.setCell ?_ (by first | omega | (simp; done) | (simp; omega)) _) | (refine Below.alloc ?_ (by first | omega | (simp; done) | (simp; omega)) _) | (refine Below.trans ?_ (Below.mono (by assumption) (by first | omega | (simp; done) | (simp; omega))))))⟩; rw [HX.out])
end Go.Proofs.YthiacdbjlkpfgaaGreatDoor
namespace Go.Proofs.YthiacdbjlkpfgaaGreatDoor
open Go.RowKit
theorem xors_any (a b : Int × Int) (w : World) (ha : Sp a) (hb : Sp b) : Calls Tryz.prog 84 #[.agg #[.int .i64 a.1, .int .i64 a.2], .agg #[.int .i64 b.1, .int .i64 b.2]] w fun e w' => e = .returned (.agg #[.int .i64 (xorsP a b).1, .int .i64 (xorsP a b).2]) ∧ Below w.heap.size w w' := by
  have hb' := hb
  unfold Sp at hb'
  by_cases k1 : a.1 < 0 ∧ 0 ≤ a.2
  · exact xors_al1 a b w ha hb k1.1 k1.2
  by_cases k2 : b.1 < 0 ∧ 0 ≤ b.2
  · exact xors_al2 a b w ha hb k1 k2.1 k2.2
  have ha' := ha
  unfold Sp at ha'
  by_cases k3 : a.2 < 0
  · by_cases k4 : b.2 < 0
    · by_cases k5 : -1 - a.1 < -1 - b.1
      · exact xors_nn1 a b w ha hb k3 k4 k5
      · exact xors_nn2 a b w ha hb k3 k4 k5
    · by_cases k5 : -1 - a.1 < b.2
      · exact xors_np1 a b w ha hb k3 (by omega) k5
      · exact xors_np2 a b w ha hb k3 (by omega) k5
  · by_cases k4 : b.2 < 0
    · by_cases k5 : -1 - b.1 < a.2
      · exact xors_pn1 a b w ha hb (by omega) k4 k5
      · exact xors_pn2 a b w ha hb (by omega) k4 k5
    · by_cases k5 : a.2 < b.2
      · exact xors_pp1 a b w ha hb (by omega) (by omega) k5
      · exact xors_pp2 a b w ha hb (by omega) (by omega) k5
end Go.Proofs.YthiacdbjlkpfgaaGreatDoor
namespace Go.Proofs.YthiacdbjlkpfgaaGreatDoor
open Go.RowKit
set_option maxRecDepth 100000 in
set_option maxHeartbeats 16000000 in
theorem products_any (a b : Int × Int) (w : World) (ha : Sp a) (hb : Sp b) : Calls Tryz.prog 80 #[.agg #[.int .i64 a.1, .int .i64 a.2], .agg #[.int .i64 b.1, .int .i64 b.2]] w fun e w' => e = .returned (.agg #[.int .i64 (prodsP a b).1, .int .i64 (prodsP a b).2]) ∧ Below w.heap.size w w' := by
  have i1 : i64 a.1 := by unfold Sp at ha; unfold i64; omega
  have i2 : i64 a.2 := by unfold Sp at ha; unfold i64; omega
  have i3 : i64 b.1 := by unfold Sp at hb; unfold i64; omega
  have i4 : i64 b.2 := by unfold Sp at hb; unfold i64; omega
  have HA : Hid (¬ (fit (a.1 * b.1) = true ∧ fit (a.1 * b.2) = true ∧ fit (a.2 * b.1) = true ∧ fit (a.2 * b.2) = true) → prodsP a b = (-9223372036854775808, 9223372036854775807)) := fun h => by
    unfold prodsP
    rw [if_neg (by simp only [Bool.and_eq_true]; exact fun k => h ⟨k.1.1.1, k.1.1.2, k.1.2, k.2⟩)]
    rfl
  have HB : Hid ((fit (a.1 * b.1) = true ∧ fit (a.1 * b.2) = true ∧ fit (a.2 * b.1) = true ∧ fit (a.2 * b.2) = true) → prodsP a b = (lst (a.1 * b.1) [(a.1 * b.2), (a.2 * b.1), (a.2 * b.2)], grt (a.1 * b.1) [(a.1 * b.2), (a.2 * b.1), (a.2 * b.2)])) := fun h => by
    unfold prodsP
    rw [if_pos (by simp only [Bool.and_eq_true]; exact ⟨⟨⟨h.1, h.2.1⟩, h.2.2.1⟩, h.2.2.2⟩)]
    unfold mn mx
    simp only [lst, grt, Prod.mk.injEq]
    omega
  clear ha hb
  have X0 := idx0
  have X1 := idx1
  have S0 : Hid (∀ w0 : World, St w0 w0 (.slice none 0 0) []) := St.start
  go_enter Tryz.func80, Tryz.ntmps80
  go_wp2_with fail
  obtain ⟨w3, hw3⟩ : ∃ w3, w3 = ((w.alloc (.cells #[.int .i64 a.1, .int .i64 a.2] 30)).alloc (.cells #[.int .i64 b.1, .int .i64 b.2] 30)).alloc (.cells #[.int .i64 0, .int .i64 0] 30) := ⟨_, rfl⟩
  rw [← hw3]
  have z3 : w.heap.size + 1 + 1 < w3.heap.size := by rw [hw3]; simp
  have cB0 : w3.cell? ⟨w.heap.size + 1, 0, none⟩ = some (.int .i64 b.1) := by subst hw3; simp [go_sem]
  have cB1 : w3.cell? ⟨w.heap.size + 1, 1, none⟩ = some (.int .i64 b.2) := by subst hw3; simp [go_sem]
  have cR0 : w3.cell? ⟨w.heap.size + 1 + 1, 0, none⟩ = some (.int .i64 0) := by subst hw3; simp [go_sem]
  have cR1 : w3.cell? ⟨w.heap.size + 1 + 1, 1, none⟩ = some (.int .i64 0) := by subst hw3; simp [go_sem]
  have cF0 : w3.frozen? ⟨w.heap.size + 1 + 1, 0, none⟩ = false := by subst hw3; simp [go_sem]
  have cF1 : w3.frozen? ⟨w.heap.size + 1 + 1, 1, none⟩ = false := by subst hw3; simp [go_sem]
  have W3 : Hid (Below w.heap.size w w3) := by unfold Hid; rw [hw3]; exact (by repeat (first | exact Below.refl _ _ | (refine Below.drew ?_) | (refine below_drewN ?_ _) | (refine Below.setCell ?_ (by first | omega | (simp; done) | (simp; omega)) _) | (refine Below.alloc ?_ (by first | omega | (simp; done) | (simp; omega)) _) | (refine Below.trans ?_ (Below.mono (by assumption) (by first | omega | (simp; done) | (simp; omega))))))
  clear hw3
  have KB : ∀ (wr : World) (v : Value) (ps : List Int), Hid (St w3 wr v ps) → (∀ n o, n < w3.heap.size → wr.cell? ⟨n, o, none⟩ = w3.cell? ⟨n, o, none⟩) ∧ (∀ n o, n < w3.heap.size → wr.frozen? ⟨n, o, none⟩ = w3.frozen? ⟨n, o, none⟩) ∧ w3.heap.size ≤ wr.heap.size := fun wr v ps h => ⟨(bcell h.out.bel).1, (bcell h.out.bel).2, h.out.bel.size⟩
  generalize hR : w.heap.size + 1 + 1 = R at *
  generalize hBq : w.heap.size + 1 = Bq at *
  have zB : Bq < R := by omega
  have rb : w.heap.size ≤ R := by omega
  clear hR hBq
  go_loopw [5, 17] (fun sl ix wr => (ix = .int .i64 0 ∧ Hid (St w3 wr sl [] ∧ True)) ∨ (ix = .int .i64 1 ∧ Hid (St w3 wr sl [(a.1 * b.1), (a.1 * b.2)] ∧ fit (a.1 * b.1) = true ∧ fit (a.1 * b.2) = true ∧ True)) ∨ (ix = .int .i64 2 ∧ Hid (St w3 wr sl [(a.1 * b.1), (a.1 * b.2), (a.2 * b.1), (a.2 * b.2)] ∧ fit (a.1 * b.1) = true ∧ fit (a.1 * b.2) = true ∧ fit (a.2 * b.1) = true ∧ fit (a.2 * b.2) = true ∧ True))) (fun _ i _ => 2 - (intOf i).toNat)
  case atStart => exact Or.inl ⟨rfl, S0.out w3, trivial⟩
  case round =>
    clear S0
    rcases hrel with ⟨rfl, hS⟩ | ⟨rfl, hS⟩ | ⟨rfl, hS⟩
    · obtain ⟨a1, c1, rfl⟩ := (hS.out.1).slice
      obtain ⟨hc, hf, hz⟩ := KB _ _ _ (hS.out.1)
      have dB0 := (hc Bq 0 (by omega)).trans cB0
      have dB1 := (hc Bq 1 (by omega)).trans cB1
      have dR0 := (hc R 0 z3).trans cR0
      have dR1 := (hc R 1 z3).trans cR1
      have dF0 := (hf R 0 z3).trans cF0
      have dF1 := (hf R 1 z3).trans cF1
      have zR : R < wr.heap.size := by omega
      have hWr : Below w.heap.size w wr := W3.out.trans ((hS.out.1).bel.mono W3.out.size)
      clear hc hf
      go_wp2_with fail
      have hS1 := hS
      clear hS zR dR0 dR1 dF0 dF1 dB0 dB1 hWr hz
      go_loopw [5, 25] (fun sl ix wr => (ix = .int .i64 0 ∧ Hid (St w3 wr sl [] ∧ True)) ∨ (ix = .int .i64 1 ∧ Hid (St w3 wr sl [(a.1 * b.1)] ∧ fit (a.1 * b.1) = true ∧ True)) ∨ (ix = .int .i64 2 ∧ Hid (St w3 wr sl [(a.1 * b.1), (a.1 * b.2)] ∧ fit (a.1 * b.1) = true ∧ fit (a.1 * b.2) = true ∧ True))) (fun _ i _ => 2 - (intOf i).toNat)
      case atStart => exact Or.inl ⟨rfl, hS1⟩
      case round =>
        clear hS1
        rcases hrel with ⟨rfl, hS⟩ | ⟨rfl, hS⟩ | ⟨rfl, hS⟩
        · obtain ⟨a1, c1, rfl⟩ := (hS.out.1).slice
          obtain ⟨hc, hf, hz⟩ := KB _ _ _ (hS.out.1)
          have dB0 := (hc Bq 0 (by omega)).trans cB0
          have dB1 := (hc Bq 1 (by omega)).trans cB1
          have dR0 := (hc R 0 z3).trans cR0
          have dR1 := (hc R 1 z3).trans cR1
          have dF0 := (hf R 0 z3).trans cF0
          have dF1 := (hf R 1 z3).trans cF1
          have zR : R < wr.heap.size := by omega
          have hWr : Below w.heap.size w wr := W3.out.trans ((hS.out.1).bel.mono W3.out.size)
          clear hc hf
          by_cases f : fit (a.1 * b.1) = true
          · have g := (fit_iff _).1 f
            have e := wrap_fit _ g.1 g.2
            clear g
            go_wp2_with (first | (go_at_call 104; refine (product_any _ _ _ (by assumption) (by assumption)).mono ?_; rintro e w1 ⟨rfl, j1, rfl⟩) | (at_builtin; refine wpList_app1 w3 _ rfl (.tmp 37) (.tmp 39) rfl _ [] (a.1 * b.1) (hS.out.1.drewN _) rfl rfl (Nat.le_of_ble_eq_true rfl) ?_; intro a2 c2 w2 hS2; replace hS2 := (hide hS2)))
            go_round
            case rel => exact Or.inr (Or.inl ⟨rfl, hS2.out, f, trivial⟩)
            case measure => simp [intOf]
          · have f : fit (a.1 * b.1) = false := by simpa using f
            have HC : Hid (prodsP a b = (-9223372036854775808, 9223372036854775807)) := HA.out (fun h => by simp [f] at h)
            go_wp2_with (first | (go_at_call 104; refine (product_any _ _ _ (by assumption) (by assumption)).mono ?_; rintro e w1 ⟨rfl, j1, rfl⟩) | (go_at_call 75; refine (nany_any _).mono ?_; rintro e w1 ⟨rfl, o1, rfl⟩; have d0 := (World.cell?_alloc_past (w := wr.drewN j1) o1 R 0 zR).trans dR0; have d1 := (World.cell?_alloc_past (w := wr.drewN j1) o1 R 1 zR).trans dR1; have f0 := (World.frozen?_alloc_past (w := wr.drewN j1) o1 R 0 zR).trans dF0; have f1 := (World.frozen?_alloc_past (w := wr.drewN j1) o1 R 1 zR).trans dF1; have hWn : Below w.heap.size w ((wr.drewN j1).alloc o1) := Below.alloc (below_drewN hWr j1) hWr.size o1; clear hWr dR0 dR1 dF0 dF1 dB0 dB1; generalize (wr.drewN j1).alloc o1 = wn at d0 d1 f0 f1 hWn ⊢))
            refine bodyPost_ret (by simp [results, Tryz.results80, go_sem, *]; try rfl) rfl ⟨?_, (by repeat (first | assumption | (refine Below.drew ?_) | (refine below_drewN ?_ _) | (refine Below.setCell ?_ (by first | omega | (simp; omega)) _) | (refine Below.alloc ?_ (by first | omega | (simp; omega)) _)))⟩
            rw [HC.out]
        · obtain ⟨a1, c1, rfl⟩ := (hS.out.1).slice
          obtain ⟨hc, hf, hz⟩ := KB _ _ _ (hS.out.1)
          have dB0 := (hc Bq 0 (by omega)).trans cB0
          have dB1 := (hc Bq 1 (by omega)).trans cB1
          have dR0 := (hc R 0 z3).trans cR0
          have dR1 := (hc R 1 z3).trans cR1
          have dF0 := (hf R 0 z3).trans cF0
          have dF1 := (hf R 1 z3).trans cF1
          have zR : R < wr.heap.size := by omega
          have hWr : Below w.heap.size w wr := W3.out.trans ((hS.out.1).bel.mono W3.out.size)
          clear hc hf
          by_cases f : fit (a.1 * b.2) = true
          · have g := (fit_iff _).1 f
            have e := wrap_fit _ g.1 g.2
            clear g
            go_wp2_with (first | (go_at_call 104; refine (product_any _ _ _ (by assumption) (by assumption)).mono ?_; rintro e w1 ⟨rfl, j1, rfl⟩) | (at_builtin; refine wpList_app1 w3 _ rfl (.tmp 37) (.tmp 39) rfl _ [(a.1 * b.1)] (a.1 * b.2) (hS.out.1.drewN _) rfl rfl (Nat.le_of_ble_eq_true rfl) ?_; intro a2 c2 w2 hS2; replace hS2 := (hide hS2)))
            go_round
            case rel => exact Or.inr (Or.inr ⟨rfl, hS2.out, hS.out.2.1, f, trivial⟩)
            case measure => simp [intOf]
          · have f : fit (a.1 * b.2) = false := by simpa using f
            have HC : Hid (prodsP a b = (-9223372036854775808, 9223372036854775807)) := HA.out (fun h => by simp [f] at h)
            go_wp2_with (first | (go_at_call 104; refine (product_any _ _ _ (by assumption) (by assumption)).mono ?_; rintro e w1 ⟨rfl, j1, rfl⟩) | (go_at_call 75; refine (nany_any _).mono ?_; rintro e w1 ⟨rfl, o1, rfl⟩; have d0 := (World.cell?_alloc_past (w := wr.drewN j1) o1 R 0 zR).trans dR0; have d1 := (World.cell?_alloc_past (w := wr.drewN j1) o1 R 1 zR).trans dR1; have f0 := (World.frozen?_alloc_past (w := wr.drewN j1) o1 R 0 zR).trans dF0; have f1 := (World.frozen?_alloc_past (w := wr.drewN j1) o1 R 1 zR).trans dF1; have hWn : Below w.heap.size w ((wr.drewN j1).alloc o1) := Below.alloc (below_drewN hWr j1) hWr.size o1; clear hWr dR0 dR1 dF0 dF1 dB0 dB1; generalize (wr.drewN j1).alloc o1 = wn at d0 d1 f0 f1 hWn ⊢))
            refine bodyPost_ret (by simp [results, Tryz.results80, go_sem, *]; try rfl) rfl ⟨?_, (by repeat (first | assumption | (refine Below.drew ?_) | (refine below_drewN ?_ _) | (refine Below.setCell ?_ (by first | omega | (simp; omega)) _) | (refine Below.alloc ?_ (by first | omega | (simp; omega)) _)))⟩
            rw [HC.out]
        · obtain ⟨a1, c1, rfl⟩ := (hS.out.1).slice
          go_wp2_with fail
          go_round
          case rel => exact Or.inr (Or.inl ⟨rfl, hS⟩)
          case measure => simp [intOf]
    · obtain ⟨a1, c1, rfl⟩ := (hS.out.1).slice
      obtain ⟨hc, hf, hz⟩ := KB _ _ _ (hS.out.1)
      have dB0 := (hc Bq 0 (by omega)).trans cB0
      have dB1 := (hc Bq 1 (by omega)).trans cB1
      have dR0 := (hc R 0 z3).trans cR0
      have dR1 := (hc R 1 z3).trans cR1
      have dF0 := (hf R 0 z3).trans cF0
      have dF1 := (hf R 1 z3).trans cF1
      have zR : R < wr.heap.size := by omega
      have hWr : Below w.heap.size w wr := W3.out.trans ((hS.out.1).bel.mono W3.out.size)
      clear hc hf
      go_wp2_with fail
      have hS1 := hS
      clear hS zR dR0 dR1 dF0 dF1 dB0 dB1 hWr hz
      go_loopw [5, 25] (fun sl ix wr => (ix = .int .i64 0 ∧ Hid (St w3 wr sl [(a.1 * b.1), (a.1 * b.2)] ∧ fit (a.1 * b.1) = true ∧ fit (a.1 * b.2) = true ∧ True)) ∨ (ix = .int .i64 1 ∧ Hid (St w3 wr sl [(a.1 * b.1), (a.1 * b.2), (a.2 * b.1)] ∧ fit (a.1 * b.1) = true ∧ fit (a.1 * b.2) = true ∧ fit (a.2 * b.1) = true ∧ True)) ∨ (ix = .int .i64 2 ∧ Hid (St w3 wr sl [(a.1 * b.1), (a.1 * b.2), (a.2 * b.1), (a.2 * b.2)] ∧ fit (a.1 * b.1) = true ∧ fit (a.1 * b.2) = true ∧ fit (a.2 * b.1) = true ∧ fit (a.2 * b.2) = true ∧ True))) (fun _ i _ => 2 - (intOf i).toNat)
      case atStart => exact Or.inl ⟨rfl, hS1⟩
      case round =>
        clear hS1
        rcases hrel with ⟨rfl, hS⟩ | ⟨rfl, hS⟩ | ⟨rfl, hS⟩
        · obtain ⟨a1, c1, rfl⟩ := (hS.out.1).slice
          obtain ⟨hc, hf, hz⟩ := KB _ _ _ (hS.out.1)
          have dB0 := (hc Bq 0 (by omega)).trans cB0
          have dB1 := (hc Bq 1 (by omega)).trans cB1
          have dR0 := (hc R 0 z3).trans cR0
          have dR1 := (hc R 1 z3).trans cR1
          have dF0 := (hf R 0 z3).trans cF0
          have dF1 := (hf R 1 z3).trans cF1
          have zR : R < wr.heap.size := by omega
          have hWr : Below w.heap.size w wr := W3.out.trans ((hS.out.1).bel.mono W3.out.size)
          clear hc hf
          by_cases f : fit (a.2 * b.1) = true
          · have g := (fit_iff _).1 f
            have e := wrap_fit _ g.1 g.2
            clear g
            go_wp2_with (first | (go_at_call 104; refine (product_any _ _ _ (by assumption) (by assumption)).mono ?_; rintro e w1 ⟨rfl, j1, rfl⟩) | (at_builtin; refine wpList_app1 w3 _ rfl (.tmp 37) (.tmp 39) rfl _ [(a.1 * b.1), (a.1 * b.2)] (a.2 * b.1) (hS.out.1.drewN _) rfl rfl (Nat.le_of_ble_eq_true rfl) ?_; intro a2 c2 w2 hS2; replace hS2 := (hide hS2)))
            go_round
            case rel => exact Or.inr (Or.inl ⟨rfl, hS2.out, hS.out.2.1, hS.out.2.2.1, f, trivial⟩)
            case measure => simp [intOf]
          · have f : fit (a.2 * b.1) = false := by simpa using f
            have HC : Hid (prodsP a b = (-9223372036854775808, 9223372036854775807)) := HA.out (fun h => by simp [f] at h)
            go_wp2_with (first | (go_at_call 104; refine (product_any _ _ _ (by assumption) (by assumption)).mono ?_; rintro e w1 ⟨rfl, j1, rfl⟩) | (go_at_call 75; refine (nany_any _).mono ?_; rintro e w1 ⟨rfl, o1, rfl⟩; have d0 := (World.cell?_alloc_past (w := wr.drewN j1) o1 R 0 zR).trans dR0; have d1 := (World.cell?_alloc_past (w := wr.drewN j1) o1 R 1 zR).trans dR1; have f0 := (World.frozen?_alloc_past (w := wr.drewN j1) o1 R 0 zR).trans dF0; have f1 := (World.frozen?_alloc_past (w := wr.drewN j1) o1 R 1 zR).trans dF1; have hWn : Below w.heap.size w ((wr.drewN j1).alloc o1) := Below.alloc (below_drewN hWr j1) hWr.size o1; clear hWr dR0 dR1 dF0 dF1 dB0 dB1; generalize (wr.drewN j1).alloc o1 = wn at d0 d1 f0 f1 hWn ⊢))
            refine bodyPost_ret (by simp [results, Tryz.results80, go_sem, *]; try rfl) rfl ⟨?_, (by repeat (first | assumption | (refine Below.drew ?_) | (refine below_drewN ?_ _) | (refine Below.setCell ?_ (by first | omega | (simp; omega)) _) | (refine Below.alloc ?_ (by first | omega | (simp; omega)) _)))⟩
            rw [HC.out]
        · obtain ⟨a1, c1, rfl⟩ := (hS.out.1).slice
          obtain ⟨hc, hf, hz⟩ := KB _ _ _ (hS.out.1)
          have dB0 := (hc Bq 0 (by omega)).trans cB0
          have dB1 := (hc Bq 1 (by omega)).trans cB1
          have dR0 := (hc R 0 z3).trans cR0
          have dR1 := (hc R 1 z3).trans cR1
          have dF0 := (hf R 0 z3).trans cF0
          have dF1 := (hf R 1 z3).trans cF1
          have zR : R < wr.heap.size := by omega
          have hWr : Below w.heap.size w wr := W3.out.trans ((hS.out.1).bel.mono W3.out.size)
          clear hc hf
          by_cases f : fit (a.2 * b.2) = true
          · have g := (fit_iff _).1 f
            have e := wrap_fit _ g.1 g.2
            clear g
            go_wp2_with (first | (go_at_call 104; refine (product_any _ _ _ (by assumption) (by assumption)).mono ?_; rintro e w1 ⟨rfl, j1, rfl⟩) | (at_builtin; refine wpList_app1 w3 _ rfl (.tmp 37) (.tmp 39) rfl _ [(a.1 * b.1), (a.1 * b.2), (a.2 * b.1)] (a.2 * b.2) (hS.out.1.drewN _) rfl rfl (Nat.le_of_ble_eq_true rfl) ?_; intro a2 c2 w2 hS2; replace hS2 := (hide hS2)))
            go_round
            case rel => exact Or.inr (Or.inr ⟨rfl, hS2.out, hS.out.2.1, hS.out.2.2.1, hS.out.2.2.2.1, f, trivial⟩)
            case measure => simp [intOf]
          · have f : fit (a.2 * b.2) = false := by simpa using f
            have HC : Hid (prodsP a b = (-9223372036854775808, 9223372036854775807)) := HA.out (fun h => by simp [f] at h)
            go_wp2_with (first | (go_at_call 104; refine (product_any _ _ _ (by assumption) (by assumption)).mono ?_; rintro e w1 ⟨rfl, j1, rfl⟩) | (go_at_call 75; refine (nany_any _).mono ?_; rintro e w1 ⟨rfl, o1, rfl⟩; have d0 := (World.cell?_alloc_past (w := wr.drewN j1) o1 R 0 zR).trans dR0; have d1 := (World.cell?_alloc_past (w := wr.drewN j1) o1 R 1 zR).trans dR1; have f0 := (World.frozen?_alloc_past (w := wr.drewN j1) o1 R 0 zR).trans dF0; have f1 := (World.frozen?_alloc_past (w := wr.drewN j1) o1 R 1 zR).trans dF1; have hWn : Below w.heap.size w ((wr.drewN j1).alloc o1) := Below.alloc (below_drewN hWr j1) hWr.size o1; clear hWr dR0 dR1 dF0 dF1 dB0 dB1; generalize (wr.drewN j1).alloc o1 = wn at d0 d1 f0 f1 hWn ⊢))
            refine bodyPost_ret (by simp [results, Tryz.results80, go_sem, *]; try rfl) rfl ⟨?_, (by repeat (first | assumption | (refine Below.drew ?_) | (refine below_drewN ?_ _) | (refine Below.setCell ?_ (by first | omega | (simp; omega)) _) | (refine Below.alloc ?_ (by first | omega | (simp; omega)) _)))⟩
            rw [HC.out]
        · obtain ⟨a1, c1, rfl⟩ := (hS.out.1).slice
          go_wp2_with fail
          go_round
          case rel => exact Or.inr (Or.inr ⟨rfl, hS⟩)
          case measure => simp [intOf]
    · obtain ⟨a1, c1, rfl⟩ := (hS.out.1).slice
      obtain ⟨hc, hf, hz⟩ := KB _ _ _ (hS.out.1)
      have dB0 := (hc Bq 0 (by omega)).trans cB0
      have dB1 := (hc Bq 1 (by omega)).trans cB1
      have dR0 := (hc R 0 z3).trans cR0
      have dR1 := (hc R 1 z3).trans cR1
      have dF0 := (hf R 0 z3).trans cF0
      have dF1 := (hf R 1 z3).trans cF1
      have zR : R < wr.heap.size := by omega
      have hWr : Below w.heap.size w wr := W3.out.trans ((hS.out.1).bel.mono W3.out.size)
      clear hc hf
      obtain ⟨g, rfl, hrow⟩ := St.row (n := (a.1 * b.1)) (ps := [(a.1 * b.2), (a.2 * b.1), (a.2 * b.2)]) (hS.out.1)
      have HR : Hid (RowN wr g [(a.1 * b.1), (a.1 * b.2), (a.2 * b.1), (a.2 * b.2)]) := hrow
      clear hrow
      have HC := HB.out ⟨hS.out.2.1, hS.out.2.2.1, hS.out.2.2.2.1, hS.out.2.2.2.2.1⟩
      replace HC := (hide HC)
      have M1 := fun w1 h => min_any g c1 (a.1 * b.1) [(a.1 * b.2), (a.2 * b.1), (a.2 * b.2)] w1 h (Nat.le_of_ble_eq_true rfl)
      have M2 := fun w1 h => max_any g c1 (a.1 * b.1) [(a.1 * b.2), (a.2 * b.1), (a.2 * b.2)] w1 h (Nat.le_of_ble_eq_true rfl)
      generalize lst (a.1 * b.1) [(a.1 * b.2), (a.2 * b.1), (a.2 * b.2)] = lo at *
      generalize grt (a.1 * b.1) [(a.1 * b.2), (a.2 * b.1), (a.2 * b.2)] = hi at *
      go_wp2_with (first | (go_at_call 105; refine (M1 _ HR.out).mono ?_; rintro e w1 ⟨rfl, rfl⟩) | (go_at_call 106; refine (M2 _ HR.out).mono ?_; rintro e w1 ⟨rfl, rfl⟩))
      refine bodyPost_ret (by simp [results, Tryz.results80, go_sem, *]; try rfl) rfl ⟨?_, (by repeat (first | assumption | (refine Below.drew ?_) | (refine below_drewN ?_ _) | (refine Below.setCell ?_ (by first | omega | (simp; omega)) _) | (refine Below.alloc ?_ (by first | omega | (simp; omega)) _)))⟩
      rw [HC.out]
end Go.Proofs.YthiacdbjlkpfgaaGreatDoor
