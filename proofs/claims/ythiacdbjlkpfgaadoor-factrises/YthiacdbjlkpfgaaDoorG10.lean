import Derived.Test.YthiacdbjlkpfgaaDoorG05
import Derived.Test.YthiacdbjlkpfgaaDoorG06
namespace Go.Proofs.YthiacdbjlkpfgaaDoor
open Go.RowKit
set_option maxHeartbeats 4000000 in
theorem sames_any (al ah bl bh : Int) (w : World) (ha : Sp (al, ah)) (hb : Sp (bl, bh)) : Calls Tryd.prog 64 #[.agg #[.int .i64 al, .int .i64 ah], .agg #[.int .i64 bl, .int .i64 bh]] w fun e w' => e = .returned (.agg #[.int .i64 (sameP (al, ah) (bl, bh)).1, .int .i64 (sameP (al, ah) (bl, bh)).2]) ∧ Below w.heap.size w w' := by
  unfold Sp at ha hb
  obtain ⟨a1, a2, a3⟩ := ha
  obtain ⟨b1, b2, b3⟩ := hb
  dsimp only at a1 a2 a3 b1 b2 b3
  by_cases h1 : ah < bl ∨ bh < al
  · have hm : meetP (al, ah) (bl, bh) = ((0, 0), false) := by unfold meetP; rw [if_neg (by dsimp only; omega)]
    have HS : Hid (sameP (al, ah) (bl, bh) = (0, 0)) := by unfold Hid sameP; rw [if_pos h1]
    clear h1
    go_enter Tryd.func64, Tryd.ntmps64
    go_wp2_with (first | (go_at_call 51; refine (nof_any _ _).mono ?_; rintro e w1 ⟨rfl, o1, rfl⟩) | (go_at_call 66; refine (nmeet_any (al, ah) (bl, bh) _).mono ?_; rintro e w1 ⟨rfl, o1, o2, o3, o4, o5, rfl⟩))
    all_goals (refine bodyPost_ret (by simp [results, Tryd.results64, go_sem]; try rfl) rfl ⟨?_, (by repeat (first | exact Below.refl _ _ | (refine Below.drew ?_) | (refine below_drewN ?_ _) | (refine Below.setCell ?_ (by first | omega | (simp; done) | (simp; omega)) _) | (refine Below.alloc ?_ (by first | omega | (simp; done) | (simp; omega)) _) | (refine Below.trans ?_ (Below.mono (by assumption) (by first | omega | (simp; done) | (simp; omega))))))⟩; rw [HS.out])
  · have hm : (meetP (al, ah) (bl, bh)).2 = true := by unfold meetP; rw [if_pos (by dsimp only; omega)]
    by_cases h2 : al = bl
    · subst h2
      by_cases h3 : ah = bh
      · subst h3
        by_cases h4 : al = ah
        · subst h4
          go_enter Tryd.func64, Tryd.ntmps64
          go_wp2_with (first | (go_at_call 51; refine (nof_any _ _).mono ?_; rintro e w1 ⟨rfl, o1, rfl⟩) | (go_at_call 66; refine (nmeet_any (al, al) (al, al) _).mono ?_; rintro e w1 ⟨rfl, o1, o2, o3, o4, o5, rfl⟩))
          all_goals (refine bodyPost_ret (by simp [results, Tryd.results64, go_sem]; try rfl) rfl ⟨?_, (by repeat (first | exact Below.refl _ _ | (refine Below.drew ?_) | (refine below_drewN ?_ _) | (refine Below.setCell ?_ (by first | omega | (simp; done) | (simp; omega)) _) | (refine Below.alloc ?_ (by first | omega | (simp; done) | (simp; omega)) _) | (refine Below.trans ?_ (Below.mono (by assumption) (by first | omega | (simp; done) | (simp; omega))))))⟩; exact ret_s (by unfold sameP; repeat' (first | rfl | omega | (dsimp only; omega) | split | (exfalso; omega))) (by unfold sameP; repeat' (first | rfl | omega | (dsimp only; omega) | split | (exfalso; omega))))
        · go_enter Tryd.func64, Tryd.ntmps64
          go_wp2_with (first | (go_at_call 51; refine (nof_any _ _).mono ?_; rintro e w1 ⟨rfl, o1, rfl⟩) | (go_at_call 66; refine (nmeet_any (al, ah) (al, ah) _).mono ?_; rintro e w1 ⟨rfl, o1, o2, o3, o4, o5, rfl⟩))
          all_goals (refine bodyPost_ret (by simp [results, Tryd.results64, go_sem]; try rfl) rfl ⟨?_, (by repeat (first | exact Below.refl _ _ | (refine Below.drew ?_) | (refine below_drewN ?_ _) | (refine Below.setCell ?_ (by first | omega | (simp; done) | (simp; omega)) _) | (refine Below.alloc ?_ (by first | omega | (simp; done) | (simp; omega)) _) | (refine Below.trans ?_ (Below.mono (by assumption) (by first | omega | (simp; done) | (simp; omega))))))⟩; exact ret_s (by unfold sameP; repeat' (first | rfl | omega | (dsimp only; omega) | split | (exfalso; omega))) (by unfold sameP; repeat' (first | rfl | omega | (dsimp only; omega) | split | (exfalso; omega))))
      · go_enter Tryd.func64, Tryd.ntmps64
        go_wp2_with (first | (go_at_call 51; refine (nof_any _ _).mono ?_; rintro e w1 ⟨rfl, o1, rfl⟩) | (go_at_call 66; refine (nmeet_any (al, ah) (al, bh) _).mono ?_; rintro e w1 ⟨rfl, o1, o2, o3, o4, o5, rfl⟩))
        all_goals (refine bodyPost_ret (by simp [results, Tryd.results64, go_sem]; try rfl) rfl ⟨?_, (by repeat (first | exact Below.refl _ _ | (refine Below.drew ?_) | (refine below_drewN ?_ _) | (refine Below.setCell ?_ (by first | omega | (simp; done) | (simp; omega)) _) | (refine Below.alloc ?_ (by first | omega | (simp; done) | (simp; omega)) _) | (refine Below.trans ?_ (Below.mono (by assumption) (by first | omega | (simp; done) | (simp; omega))))))⟩; exact ret_s (by unfold sameP; repeat' (first | rfl | omega | (dsimp only; omega) | split | (exfalso; omega))) (by unfold sameP; repeat' (first | rfl | omega | (dsimp only; omega) | split | (exfalso; omega))))
    · go_enter Tryd.func64, Tryd.ntmps64
      go_wp2_with (first | (go_at_call 51; refine (nof_any _ _).mono ?_; rintro e w1 ⟨rfl, o1, rfl⟩) | (go_at_call 66; refine (nmeet_any (al, ah) (bl, bh) _).mono ?_; rintro e w1 ⟨rfl, o1, o2, o3, o4, o5, rfl⟩))
      all_goals (refine bodyPost_ret (by simp [results, Tryd.results64, go_sem]; try rfl) rfl ⟨?_, (by repeat (first | exact Below.refl _ _ | (refine Below.drew ?_) | (refine below_drewN ?_ _) | (refine Below.setCell ?_ (by first | omega | (simp; done) | (simp; omega)) _) | (refine Below.alloc ?_ (by first | omega | (simp; done) | (simp; omega)) _) | (refine Below.trans ?_ (Below.mono (by assumption) (by first | omega | (simp; done) | (simp; omega))))))⟩; exact ret_s (by unfold sameP; repeat' (first | rfl | omega | (dsimp only; omega) | split | (exfalso; omega))) (by unfold sameP; repeat' (first | rfl | omega | (dsimp only; omega) | split | (exfalso; omega))))
end Go.Proofs.YthiacdbjlkpfgaaDoor
namespace Go.Proofs.YthiacdbjlkpfgaaDoor
open Go.RowKit
theorem len_small (m : Nat) (h : m < 256) : wrap64 (bitLen m : Int) = bitLen m := by
  have := bitLen_le8 m h
  exact wrap_fit _ (by omega) (by omega)
/-- b bits below those of y -/
theorem len_up (x y : Int) (b p : Nat) (hp : p = 2 ^ b) (hb : b ≤ 56) (hy : y.toNat = x.toNat / p) (hn : y.toNat ≠ 0) (h8 : y.toNat < 256) : wrap64 ((b : Int) + wrap64 (bitLen y.toNat : Int)) = bitLen x.toNat := by
  subst hp
  rw [len_small _ h8]
  have := bitLen_le8 _ h8
  rw [wrap_fit _ (by omega) (by omega), bitLen_shift x.toNat b (by rw [← hy]; exact hn), ← hy]
  push_cast
  rfl
set_option maxHeartbeats 8000000 in
set_option maxRecDepth 100000 in
theorem len64_any (x : Int) (w : World) (h0 : 0 ≤ x) (h1 : x ≤ 18446744073709551615) : Calls Tryd.prog 87 #[.int .u64 x] w fun e w' => e = .returned (.int .i64 (bitLen x.toNat)) ∧ w' = w := by
  go_enter Tryd.func87, Tryd.ntmps87
  go_wp2
  all_goals (go_ret; refine ⟨congrArg Ending.returned (congrArg (Value.int IntKind.i64) ?_), rfl⟩)
  all_goals rw [len8tab_get]
  all_goals (first
    | exact len_up x _ 56 72057594037927936 (by decide) (by decide) (by omega) (by omega) (by omega)
    | exact len_up x _ 48 281474976710656 (by decide) (by decide) (by omega) (by omega) (by omega)
    | exact len_up x _ 40 1099511627776 (by decide) (by decide) (by omega) (by omega) (by omega)
    | exact len_up x _ 32 4294967296 (by decide) (by decide) (by omega) (by omega) (by omega)
    | exact len_up x _ 24 16777216 (by decide) (by decide) (by omega) (by omega) (by omega)
    | exact len_up x _ 16 65536 (by decide) (by decide) (by omega) (by omega) (by omega)
    | exact len_up x _ 8 256 (by decide) (by decide) (by omega) (by omega) (by omega)
    | (simp only [len_small _ (show x.toNat < 256 by omega)]; done))
theorem pow_ones (n : Int) (h1 : n ≤ 9223372036854775807) : wrap64 (IntKind.u64.wrap (IntKind.u64.wrap (2 ^ bitLen n.toNat) - 1)) = onesI n := by
  have e := bitLen_63 n h1
  have e3 : 2 ^ bitLen n.toNat ≤ 2 ^ 63 := Nat.pow_le_pow_right (by omega) e
  have e4 : 0 < 2 ^ bitLen n.toNat := Nat.pow_pos (by omega)
  unfold onesI
  have hc : ((2 : Int) ^ bitLen n.toNat) = ((2 ^ bitLen n.toNat : Nat) : Int) := by push_cast; rfl
  rw [hc]
  generalize 2 ^ bitLen n.toNat = p at *
  rw [IntKind.wrap_u64, IntKind.wrap_u64]
  unfold wrap64
  omega
set_option maxRecDepth 100000 in
theorem ones_any (n : Int) (w : World) (h0 : 0 ≤ n) (h1 : n ≤ 9223372036854775807) : Calls Tryd.prog 86 #[.int .i64 n] w fun e w' => e = .returned (.int .i64 (onesI n)) ∧ w' = w := by
  have hl := bitLen_63 n h1
  go_enter Tryd.func86, Tryd.ntmps86
  go_wp2_with (go_at_call 87; refine (len64_any _ _ (by omega) (by omega)).mono ?_; rintro e w1 ⟨rfl, rfl⟩)
  go_ret
  exact ⟨ret_i (pow_ones n h1).symm, rfl⟩
end Go.Proofs.YthiacdbjlkpfgaaDoor
namespace Go.Proofs.YthiacdbjlkpfgaaDoor
open Go.RowKit
set_option maxHeartbeats 8000000 in
theorem xors_pp1 (a b : Int × Int) (w : World) (ha : Sp a) (hb : Sp b) (h1 : 0 ≤ a.1) (h2 : 0 ≤ b.1) (h3 : a.2 < b.2) : Calls Tryd.prog 62 #[.agg #[.int .i64 a.1, .int .i64 a.2], .agg #[.int .i64 b.1, .int .i64 b.2]] w fun e w' => e = .returned (.agg #[.int .i64 (xorsP a b).1, .int .i64 (xorsP a b).2]) ∧ Below w.heap.size w w' := by
  unfold Sp at ha hb
  obtain ⟨a1, a2, a3⟩ := ha
  obtain ⟨b1, b2, b3⟩ := hb
  have HX : Hid (xorsP a b = (0, onesI b.2)) := by
    unfold Hid xorsP
    rw [if_pos ⟨h1, h2⟩, Int.max_eq_right (by omega)]
  have B := ones_bd (b.2) (by omega)
  go_enter Tryd.func62, Tryd.ntmps62
  go_wp2_with (first | (go_at_call 73; refine (nany_any _).mono ?_; rintro e w1 ⟨rfl, o1, rfl⟩) | (go_at_call 86; refine (ones_any _ _ (by omega) (by omega)).mono ?_; rintro e w1 ⟨rfl, rfl⟩))
  all_goals (refine bodyPost_ret (by simp [results, Tryd.results62, go_sem]; try rfl) rfl ⟨?_, (by repeat (first | exact Below.refl _ _ | (refine Below.drew ?_) | (refine below_drewN ?_ _) | (refine Below.setCell ?_ (by first | omega | (simp; done) | (simp; omega)) _) | (refine Below.alloc ?_ (by first | omega | (simp; done) | (simp; omega)) _) | (refine Below.trans ?_ (Below.mono (by assumption) (by first | omega | (simp; done) | (simp; omega))))))⟩; rw [HX.out])
set_option maxHeartbeats 8000000 in
theorem xors_pp2 (a b : Int × Int) (w : World) (ha : Sp a) (hb : Sp b) (h1 : 0 ≤ a.1) (h2 : 0 ≤ b.1) (h3 : ¬ a.2 < b.2) : Calls Tryd.prog 62 #[.agg #[.int .i64 a.1, .int .i64 a.2], .agg #[.int .i64 b.1, .int .i64 b.2]] w fun e w' => e = .returned (.agg #[.int .i64 (xorsP a b).1, .int .i64 (xorsP a b).2]) ∧ Below w.heap.size w w' := by
  unfold Sp at ha hb
  obtain ⟨a1, a2, a3⟩ := ha
  obtain ⟨b1, b2, b3⟩ := hb
  have HX : Hid (xorsP a b = (0, onesI a.2)) := by
    unfold Hid xorsP
    rw [if_pos ⟨h1, h2⟩, Int.max_eq_left (by omega)]
  have B := ones_bd (a.2) (by omega)
  go_enter Tryd.func62, Tryd.ntmps62
  go_wp2_with (first | (go_at_call 73; refine (nany_any _).mono ?_; rintro e w1 ⟨rfl, o1, rfl⟩) | (go_at_call 86; refine (ones_any _ _ (by omega) (by omega)).mono ?_; rintro e w1 ⟨rfl, rfl⟩))
  all_goals (refine bodyPost_ret (by simp [results, Tryd.results62, go_sem]; try rfl) rfl ⟨?_, (by repeat (first | exact Below.refl _ _ | (refine Below.drew ?_) | (refine below_drewN ?_ _) | (refine Below.setCell ?_ (by first | omega | (simp; done) | (simp; omega)) _) | (refine Below.alloc ?_ (by first | omega | (simp; done) | (simp; omega)) _) | (refine Below.trans ?_ (Below.mono (by assumption) (by first | omega | (simp; done) | (simp; omega))))))⟩; rw [HX.out])
set_option maxHeartbeats 8000000 in
theorem xors_nn1 (a b : Int × Int) (w : World) (ha : Sp a) (hb : Sp b) (h1 : a.2 < 0) (h2 : b.2 < 0) (h3 : -1 - a.1 < -1 - b.1) : Calls Tryd.prog 62 #[.agg #[.int .i64 a.1, .int .i64 a.2], .agg #[.int .i64 b.1, .int .i64 b.2]] w fun e w' => e = .returned (.agg #[.int .i64 (xorsP a b).1, .int .i64 (xorsP a b).2]) ∧ Below w.heap.size w w' := by
  unfold Sp at ha hb
  obtain ⟨a1, a2, a3⟩ := ha
  obtain ⟨b1, b2, b3⟩ := hb
  have HX : Hid (xorsP a b = (0, onesI (-1 - b.1))) := by
    unfold Hid xorsP
    rw [if_neg (by omega), if_pos ⟨h1, h2⟩, Int.max_eq_right (by omega)]
  have B := ones_bd (-1 - b.1) (by omega)
  have h4 : ¬ 0 ≤ a.1 := by omega
  have h5 : ¬ 0 ≤ b.1 := by omega
  go_enter Tryd.func62, Tryd.ntmps62
  go_wp2_with (first | (go_at_call 73; refine (nany_any _).mono ?_; rintro e w1 ⟨rfl, o1, rfl⟩) | (go_at_call 86; refine (ones_any _ _ (by omega) (by omega)).mono ?_; rintro e w1 ⟨rfl, rfl⟩))
  all_goals (refine bodyPost_ret (by simp [results, Tryd.results62, go_sem]; try rfl) rfl ⟨?_, (by repeat (first | exact Below.refl _ _ | (refine Below.drew ?_) | (refine below_drewN ?_ _) | (refine Below.setCell ?_ (by first | omega | (simp; done) | (simp; omega)) _) | (refine Below.alloc ?_ (by first | omega | (simp; done) | (simp; omega)) _) | (refine Below.trans ?_ (Below.mono (by assumption) (by first | omega | (simp; done) | (simp; omega))))))⟩; rw [HX.out])
set_option maxHeartbeats 8000000 in
theorem xors_nn2 (a b : Int × Int) (w : World) (ha : Sp a) (hb : Sp b) (h1 : a.2 < 0) (h2 : b.2 < 0) (h3 : ¬ -1 - a.1 < -1 - b.1) : Calls Tryd.prog 62 #[.agg #[.int .i64 a.1, .int .i64 a.2], .agg #[.int .i64 b.1, .int .i64 b.2]] w fun e w' => e = .returned (.agg #[.int .i64 (xorsP a b).1, .int .i64 (xorsP a b).2]) ∧ Below w.heap.size w w' := by
  unfold Sp at ha hb
  obtain ⟨a1, a2, a3⟩ := ha
  obtain ⟨b1, b2, b3⟩ := hb
  have HX : Hid (xorsP a b = (0, onesI (-1 - a.1))) := by
    unfold Hid xorsP
    rw [if_neg (by omega), if_pos ⟨h1, h2⟩, Int.max_eq_left (by omega)]
  have B := ones_bd (-1 - a.1) (by omega)
  have h4 : ¬ 0 ≤ a.1 := by omega
  have h5 : ¬ 0 ≤ b.1 := by omega
  go_enter Tryd.func62, Tryd.ntmps62
  go_wp2_with (first | (go_at_call 73; refine (nany_any _).mono ?_; rintro e w1 ⟨rfl, o1, rfl⟩) | (go_at_call 86; refine (ones_any _ _ (by omega) (by omega)).mono ?_; rintro e w1 ⟨rfl, rfl⟩))
  all_goals (refine bodyPost_ret (by simp [results, Tryd.results62, go_sem]; try rfl) rfl ⟨?_, (by repeat (first | exact Below.refl _ _ | (refine Below.drew ?_) | (refine below_drewN ?_ _) | (refine Below.setCell ?_ (by first | omega | (simp; done) | (simp; omega)) _) | (refine Below.alloc ?_ (by first | omega | (simp; done) | (simp; omega)) _) | (refine Below.trans ?_ (Below.mono (by assumption) (by first | omega | (simp; done) | (simp; omega))))))⟩; rw [HX.out])
end Go.Proofs.YthiacdbjlkpfgaaDoor
namespace Go.Proofs.YthiacdbjlkpfgaaDoor
open Go.RowKit
set_option maxHeartbeats 8000000 in
theorem xors_np1 (a b : Int × Int) (w : World) (ha : Sp a) (hb : Sp b) (h1 : a.2 < 0) (h2 : 0 ≤ b.1) (h3 : -1 - a.1 < b.2) : Calls Tryd.prog 62 #[.agg #[.int .i64 a.1, .int .i64 a.2], .agg #[.int .i64 b.1, .int .i64 b.2]] w fun e w' => e = .returned (.agg #[.int .i64 (xorsP a b).1, .int .i64 (xorsP a b).2]) ∧ Below w.heap.size w w' := by
  unfold Sp at ha hb
  obtain ⟨a1, a2, a3⟩ := ha
  obtain ⟨b1, b2, b3⟩ := hb
  have HX : Hid (xorsP a b = (-1 - onesI b.2, -1)) := by
    unfold Hid xorsP
    rw [if_neg (by omega), if_neg (by omega), if_pos ⟨h1, h2⟩, Int.max_eq_right (by omega)]
  have B := ones_bd (b.2) (by omega)
  have h4 : ¬ 0 ≤ a.1 := by omega
  have h5 : ¬ b.2 < 0 := by omega
  go_enter Tryd.func62, Tryd.ntmps62
  go_wp2_with (first | (go_at_call 73; refine (nany_any _).mono ?_; rintro e w1 ⟨rfl, o1, rfl⟩) | (go_at_call 86; refine (ones_any _ _ (by omega) (by omega)).mono ?_; rintro e w1 ⟨rfl, rfl⟩))
  all_goals (refine bodyPost_ret (by simp [results, Tryd.results62, go_sem]; try rfl) rfl ⟨?_, (by repeat (first | exact Below.refl _ _ | (refine Below.drew ?_) | (refine below_drewN ?_ _) | (refine Below.setCell ?_ (by first | omega | (simp; done) | (simp; omega)) _) | (refine Below.alloc ?_ (by first | omega | (simp; done) | (simp; omega)) _) | (refine Below.trans ?_ (Below.mono (by assumption) (by first | omega | (simp; done) | (simp; omega))))))⟩; rw [HX.out])
set_option maxHeartbeats 8000000 in
theorem xors_np2 (a b : Int × Int) (w : World) (ha : Sp a) (hb : Sp b) (h1 : a.2 < 0) (h2 : 0 ≤ b.1) (h3 : ¬ -1 - a.1 < b.2) : Calls Tryd.prog 62 #[.agg #[.int .i64 a.1, .int .i64 a.2], .agg #[.int .i64 b.1, .int .i64 b.2]] w fun e w' => e = .returned (.agg #[.int .i64 (xorsP a b).1, .int .i64 (xorsP a b).2]) ∧ Below w.heap.size w w' := by
  unfold Sp at ha hb
  obtain ⟨a1, a2, a3⟩ := ha
  obtain ⟨b1, b2, b3⟩ := hb
  have HX : Hid (xorsP a b = (-1 - onesI (-1 - a.1), -1)) := by
    unfold Hid xorsP
    rw [if_neg (by omega), if_neg (by omega), if_pos ⟨h1, h2⟩, Int.max_eq_left (by omega)]
  have B := ones_bd (-1 - a.1) (by omega)
  have h4 : ¬ 0 ≤ a.1 := by omega
  have h5 : ¬ b.2 < 0 := by omega
  go_enter Tryd.func62, Tryd.ntmps62
  go_wp2_with (first | (go_at_call 73; refine (nany_any _).mono ?_; rintro e w1 ⟨rfl, o1, rfl⟩) | (go_at_call 86; refine (ones_any _ _ (by omega) (by omega)).mono ?_; rintro e w1 ⟨rfl, rfl⟩))
  all_goals (refine bodyPost_ret (by simp [results, Tryd.results62, go_sem]; try rfl) rfl ⟨?_, (by repeat (first | exact Below.refl _ _ | (refine Below.drew ?_) | (refine below_drewN ?_ _) | (refine Below.setCell ?_ (by first | omega | (simp; done) | (simp; omega)) _) | (refine Below.alloc ?_ (by first | omega | (simp; done) | (simp; omega)) _) | (refine Below.trans ?_ (Below.mono (by assumption) (by first | omega | (simp; done) | (simp; omega))))))⟩; rw [HX.out])
set_option maxHeartbeats 8000000 in
theorem xors_pn1 (a b : Int × Int) (w : World) (ha : Sp a) (hb : Sp b) (h1 : 0 ≤ a.1) (h2 : b.2 < 0) (h3 : -1 - b.1 < a.2) : Calls Tryd.prog 62 #[.agg #[.int .i64 a.1, .int .i64 a.2], .agg #[.int .i64 b.1, .int .i64 b.2]] w fun e w' => e = .returned (.agg #[.int .i64 (xorsP a b).1, .int .i64 (xorsP a b).2]) ∧ Below w.heap.size w w' := by
  unfold Sp at ha hb
  obtain ⟨a1, a2, a3⟩ := ha
  obtain ⟨b1, b2, b3⟩ := hb
  have HX : Hid (xorsP a b = (-1 - onesI a.2, -1)) := by
    unfold Hid xorsP
    rw [if_neg (by omega), if_neg (by omega), if_neg (by omega), if_pos ⟨h1, h2⟩, Int.max_eq_left (by omega)]
  have B := ones_bd (a.2) (by omega)
  have h4 : ¬ 0 ≤ b.1 := by omega
  have h5 : ¬ a.2 < 0 := by omega
  go_enter Tryd.func62, Tryd.ntmps62
  go_wp2_with (first | (go_at_call 73; refine (nany_any _).mono ?_; rintro e w1 ⟨rfl, o1, rfl⟩) | (go_at_call 86; refine (ones_any _ _ (by omega) (by omega)).mono ?_; rintro e w1 ⟨rfl, rfl⟩))
  all_goals (refine bodyPost_ret (by simp [results, Tryd.results62, go_sem]; try rfl) rfl ⟨?_, (by repeat (first | exact Below.refl _ _ | (refine Below.drew ?_) | (refine below_drewN ?_ _) | (refine Below.setCell ?_ (by first | omega | (simp; done) | (simp; omega)) _) | (refine Below.alloc ?_ (by first | omega | (simp; done) | (simp; omega)) _) | (refine Below.trans ?_ (Below.mono (by assumption) (by first | omega | (simp; done) | (simp; omega))))))⟩; rw [HX.out])
set_option maxHeartbeats 8000000 in
theorem xors_pn2 (a b : Int × Int) (w : World) (ha : Sp a) (hb : Sp b) (h1 : 0 ≤ a.1) (h2 : b.2 < 0) (h3 : ¬ -1 - b.1 < a.2) : Calls Tryd.prog 62 #[.agg #[.int .i64 a.1, .int .i64 a.2], .agg #[.int .i64 b.1, .int .i64 b.2]] w fun e w' => e = .returned (.agg #[.int .i64 (xorsP a b).1, .int .i64 (xorsP a b).2]) ∧ Below w.heap.size w w' := by
  unfold Sp at ha hb
  obtain ⟨a1, a2, a3⟩ := ha
  obtain ⟨b1, b2, b3⟩ := hb
  have HX : Hid (xorsP a b = (-1 - onesI (-1 - b.1), -1)) := by
    unfold Hid xorsP
    rw [if_neg (by omega), if_neg (by omega), if_neg (by omega), if_pos ⟨h1, h2⟩, Int.max_eq_right (by omega)]
  have B := ones_bd (-1 - b.1) (by omega)
  have h4 : ¬ 0 ≤ b.1 := by omega
  have h5 : ¬ a.2 < 0 := by omega
  go_enter Tryd.func62, Tryd.ntmps62
  go_wp2_with (first | (go_at_call 73; refine (nany_any _).mono ?_; rintro e w1 ⟨rfl, o1, rfl⟩) | (go_at_call 86; refine (ones_any _ _ (by omega) (by omega)).mono ?_; rintro e w1 ⟨rfl, rfl⟩))
  all_goals (refine bodyPost_ret (by simp [results, Tryd.results62, go_sem]; try rfl) rfl ⟨?_, (by repeat (first | exact Below.refl _ _ | (refine Below.drew ?_) | (refine below_drewN ?_ _) | (refine Below.setCell ?_ (by first | omega | (simp; done) | (simp; omega)) _) | (refine Below.alloc ?_ (by first | omega | (simp; done) | (simp; omega)) _) | (refine Below.trans ?_ (Below.mono (by assumption) (by first | omega | (simp; done) | (simp; omega))))))⟩; rw [HX.out])
end Go.Proofs.YthiacdbjlkpfgaaDoor
namespace Go.Proofs.YthiacdbjlkpfgaaDoor
open Go.RowKit
set_option maxHeartbeats 8000000 in
theorem xors_al1 (a b : Int × Int) (w : World) (ha : Sp a) (hb : Sp b) (h1 : a.1 < 0) (h2 : 0 ≤ a.2) : Calls Tryd.prog 62 #[.agg #[.int .i64 a.1, .int .i64 a.2], .agg #[.int .i64 b.1, .int .i64 b.2]] w fun e w' => e = .returned (.agg #[.int .i64 (xorsP a b).1, .int .i64 (xorsP a b).2]) ∧ Below w.heap.size w w' := by
  unfold Sp at ha hb
  obtain ⟨a1, a2, a3⟩ := ha
  obtain ⟨b1, b2, b3⟩ := hb
  have HX : Hid (xorsP a b = (-9223372036854775808, 9223372036854775807)) := by
    unfold Hid xorsP
    rw [if_neg (by omega), if_neg (by omega), if_neg (by omega), if_neg (by omega)]; rfl
  have h8 : ¬ 0 ≤ a.1 := by omega
  have h9 : ¬ a.2 < 0 := by omega
  rcases (by omega : (0 ≤ b.1 ∧ ¬ b.2 < 0) ∨ (¬ 0 ≤ b.1 ∧ b.2 < 0) ∨ (¬ 0 ≤ b.1 ∧ ¬ b.2 < 0)) with ⟨h3, h4⟩ | ⟨h3, h4⟩ | ⟨h3, h4⟩ <;>
  · go_enter Tryd.func62, Tryd.ntmps62
    go_wp2_with (first | (go_at_call 73; refine (nany_any _).mono ?_; rintro e w1 ⟨rfl, o1, rfl⟩) | (go_at_call 86; refine (ones_any _ _ (by omega) (by omega)).mono ?_; rintro e w1 ⟨rfl, rfl⟩))
    all_goals (refine bodyPost_ret (by simp [results, Tryd.results62, go_sem]; try rfl) rfl ⟨?_, (by repeat (first | exact Below.refl _ _ | (refine Below.drew ?_) | (refine below_drewN ?_ _) | (refine Below.setCell ?_ (by first | omega | (simp; done) | (simp; omega)) _) | (refine Below.alloc ?_ (by first | omega | (simp; done) | (simp; omega)) _) | (refine Below.trans ?_ (Below.mono (by assumption) (by first | omega | (simp; done) | (simp; omega))))))⟩; rw [HX.out])
set_option maxHeartbeats 8000000 in
theorem xors_al2 (a b : Int × Int) (w : World) (ha : Sp a) (hb : Sp b) (h0 : ¬ (a.1 < 0 ∧ 0 ≤ a.2)) (h1 : b.1 < 0) (h2 : 0 ≤ b.2) : Calls Tryd.prog 62 #[.agg #[.int .i64 a.1, .int .i64 a.2], .agg #[.int .i64 b.1, .int .i64 b.2]] w fun e w' => e = .returned (.agg #[.int .i64 (xorsP a b).1, .int .i64 (xorsP a b).2]) ∧ Below w.heap.size w w' := by
  unfold Sp at ha hb
  obtain ⟨a1, a2, a3⟩ := ha
  obtain ⟨b1, b2, b3⟩ := hb
  have HX : Hid (xorsP a b = (-9223372036854775808, 9223372036854775807)) := by
    unfold Hid xorsP
    rw [if_neg (by omega), if_neg (by omega), if_neg (by omega), if_neg (by omega)]; rfl
  have h8 : ¬ 0 ≤ b.1 := by omega
  have h9 : ¬ b.2 < 0 := by omega
  rcases (by omega : (0 ≤ a.1 ∧ ¬ a.2 < 0) ∨ (¬ 0 ≤ a.1 ∧ a.2 < 0)) with ⟨h3, h4⟩ | ⟨h3, h4⟩ <;>
  · go_enter Tryd.func62, Tryd.ntmps62
    go_wp2_with (first | (go_at_call 73; refine (nany_any _).mono ?_; rintro e w1 ⟨rfl, o1, rfl⟩) | (go_at_call 86; refine (ones_any _ _ (by omega) (by omega)).mono ?_; rintro e w1 ⟨rfl, rfl⟩))
    all_goals (refine bodyPost_ret (by simp [results, Tryd.results62, go_sem]; try rfl) rfl ⟨?_, (by repeat (first | exact Below.refl _ _ | (refine Below.drew ?_) | (refine below_drewN ?_ _) | (refine Below.setCell ?_ (by first | omega | (simp; done) | (simp; omega)) _) | (refine Below.alloc ?_ (by first | omega | (simp; done) | (simp; omega)) _) | (refine Below.trans ?_ (Below.mono (by assumption) (by first | omega | (simp; done) | (simp; omega))))))⟩; rw [HX.out])
end Go.Proofs.YthiacdbjlkpfgaaDoor
namespace Go.Proofs.YthiacdbjlkpfgaaDoor
open Go.RowKit
theorem xors_any (a b : Int × Int) (w : World) (ha : Sp a) (hb : Sp b) : Calls Tryd.prog 62 #[.agg #[.int .i64 a.1, .int .i64 a.2], .agg #[.int .i64 b.1, .int .i64 b.2]] w fun e w' => e = .returned (.agg #[.int .i64 (xorsP a b).1, .int .i64 (xorsP a b).2]) ∧ Below w.heap.size w w' := by
  have hb' := hb
  unfold Sp at hb'
  by_cases k1 : a.1 < 0 ∧ 0 ≤ a.2
  · exact xors_al1 a b w ha hb k1.1 k1.2
  by_cases k2 : b.1 < 0 ∧ 0 ≤ b.2
  · exact xors_al2 a b w ha hb k1 k2.1 k2.2
  have ha' := ha
  unfold Sp at ha'
  by_cases k3 : a.2 < 0
  · by_cases k4 : b.2 < 0
    · by_cases k5 : -1 - a.1 < -1 - b.1
      · exact xors_nn1 a b w ha hb k3 k4 k5
      · exact xors_nn2 a b w ha hb k3 k4 k5
    · by_cases k5 : -1 - a.1 < b.2
      · exact xors_np1 a b w ha hb k3 (by omega) k5
      · exact xors_np2 a b w ha hb k3 (by omega) k5
  · by_cases k4 : b.2 < 0
    · by_cases k5 : -1 - b.1 < a.2
      · exact xors_pn1 a b w ha hb (by omega) k4 k5
      · exact xors_pn2 a b w ha hb (by omega) k4 k5
    · by_cases k5 : a.2 < b.2
      · exact xors_pp1 a b w ha hb (by omega) (by omega) k5
      · exact xors_pp2 a b w ha hb (by omega) (by omega) k5
end Go.Proofs.YthiacdbjlkpfgaaDoor
