import Derived.Test.YtidhcmhheohciaaDoorG01
import Derived.Test.YtidhcmhheohciaaDoorRows
import Derived.Test.YtidhcmhheohciaaDoorTie
import Derived.Test.YtidhcmhheohciaaDoorCards
import Derived.Test.YtidhcmhheohciaaDoorG02
import Derived.Test.YtidhcmhheohciaaDoorG00
import Derived.WalkKit
import Derived.ProofKit
import Derived.OpenShut
import Derived.ShutString
import Derived.ChangeOld
import Derived.Below
import Derived.LaidMore
import Derived.LaidHandle
import Derived.Stop.Joined
import Derived.SevenTiedAt
import Derived.SizedLaws
import Derived.Test.YtidhcmhheohciaaDoorG06
namespace Go.Proofs.YtidhcmhheohciaaDoor
open Go.RowKit
set_option maxRecDepth 100000 in
set_option maxHeartbeats 16000000 in
theorem bsets_walk (xs ys : List Int) (a b : Option Addr) (c d : Nat) (z : Int) (w : World) (hr : Ri w a xs) (hs : Ri w b ys) (hc : xs.length ≤ 9223372036854775807) (hd : ys.length ≤ 9223372036854775807)
    (hL : ∀ w, Calls Tryd.prog 10 #[] w fun e w' => e = .returned (.bool true) ∧ Below w.heap.size w w') :
    Calls Tryd.prog 5 #[.slice a xs.length c, .slice b ys.length d, .int .i64 z] w fun e w' => e = .returned (.bool true) ∧ Below w.heap.size w w' := by
  have HR : Hid (Ri w a xs) := hr
  have HS : Hid (Ri w b ys) := hs
  clear hr hs
  obtain ⟨f, hf⟩ : ∃ f, f = hit 60 xs := ⟨_, rfl⟩
  obtain ⟨g, hg⟩ : ∃ g, g = hit 60 ys := ⟨_, rfl⟩
  have c1 : ∀ w, Ri w a xs → Calls Tryd.prog 21 #[.int .i64 60, .slice a xs.length c] w fun e w' => ∃ a' c', e = .returned (.slice a' (setF f 0 60).length c') ∧ Ri w' a' (setF f 0 60) ∧ (setF f 0 60).length ≤ c' ∧ (a' = none → c' = 0) ∧ Below w.heap.size w w' := fun w h => by
    have t := set_any 60 xs a c w h (by omega) (by omega) hc
    rw [setL_eq, ← hf, show ((60 : Nat) : Int) = 60 from rfl] at t
    exact t
  have c2 : ∀ w, Ri w b ys → Calls Tryd.prog 21 #[.int .i64 60, .slice b ys.length d] w fun e w' => ∃ a' c', e = .returned (.slice a' (setF g 0 60).length c') ∧ Ri w' a' (setF g 0 60) ∧ (setF g 0 60).length ≤ c' ∧ (a' = none → c' = 0) ∧ Below w.heap.size w w' := fun w h => by
    have t := set_any 60 ys b d w h (by omega) (by omega) hd
    rw [setL_eq, ← hg, show ((60 : Nat) : Int) = 60 from rfl] at t
    exact t
  clear hf hg
  have lA := setF_len f 60 0
  have lB := setF_len g 60 0
  have HU := hide (uni_set f g 60 0)
  have HM := hide (min_set f g 60 0)
  have HW := hide (wi_set f g 60 0)
  have hA := hide (fun k h1 h2 => has_set f 60 0 k h1 h2)
  have hB := hide (fun k h1 h2 => has_set g 60 0 k h1 h2)
  have uA := hide (up_set f 60 0)
  have uB := hide (up_set g 60 0)
  generalize setF f 0 60 = A at *
  generalize setF g 0 60 = B at *
  go_enter Tryd.func5, Tryd.ntmps5
  go_upto_region 2 with (first | (go_at_call 21; refine (c1 _ HR.out).mono ?_; rintro e w1 ⟨a1, c1', rfl, rA, kA, nA, bA⟩; have RA := hide rA; have HS2 := hide (HS.out.keep' bA); clear c1 rA) | (go_at_call 21; refine (c2 _ HS2.out).mono ?_; rintro e w2 ⟨b1, d1', rfl, rB, kB, nB, bB⟩; have RB := hide rB; have RA2 := hide (RA.out.keep' bB); clear c2 rB RA))
  have B2 := hide (bA.trans (bB.mono bA.size))
  clear bA bB HS HS2 HR
  have c3 := fun w1 h1 h2 => union_any A B a1 b1 c1' d1' w1 h1 h2 (by omega) kA kB nA nB
  have c4 := fun w1 h1 h2 => minus_any A B a1 b1 c1' d1' w1 h1 h2 (by omega) kB
  rw [HU.out] at c3
  rw [HM.out] at c4
  clear HU HM nA nB
  obtain ⟨h1, e1⟩ : ∃ h : Nat → Bool, h = fun k => f k || g k := ⟨_, rfl⟩
  obtain ⟨h2, e2⟩ : ∃ h : Nat → Bool, h = fun k => f k && !g k := ⟨_, rfl⟩
  have E1 : Hid (∀ k, h1 k = (f k || g k)) := fun k => by rw [e1]
  have E2 : Hid (∀ k, h2 k = (f k && !g k)) := fun k => by rw [e2]
  rw [← e1] at c3
  rw [← e2] at c4
  clear e1 e2
  have lU := setF_len h1 60 0
  have lM := setF_len h2 60 0
  have TU := hide (fun k hk hh => set_at h1 60 k hk hh)
  have TM := hide (fun k hk hh => set_at h2 60 k hk hh)
  have NU := hide (fun k hh => set_no h1 k hh)
  have NM := hide (fun k hh => set_no h2 k hh)
  generalize hU : setF h1 0 60 = U at *
  generalize hM : setF h2 0 60 = M at *
  have HU6 := hide hU
  have HM6 := hide hM
  clear hU hM
  go_upto_region 3 with (first | (go_at_call 25; refine (c3 _ RA2.out RB.out).mono ?_; rintro e w3 ⟨u1, cu, rfl, rU, kU, nU, bU⟩; have RUn := hide rU; have RA3 := hide (RA2.out.keep' bU); have RB3 := hide (RB.out.keep' bU); clear c3 rU) | (go_at_call 26; refine (c4 _ RA3.out RB3.out).mono ?_; rintro e w4 ⟨m1, cm, rfl, rM, kM, bM⟩; have RMn := hide rM; have RU4 := hide (RUn.out.keep' bM); have RA4 := hide (RA3.out.keep' bM); have RB4 := hide (RB3.out.keep' bM); clear c4 rM RA3 RB3 RUn))
  have B3 := hide (B2.out.trans (bU.mono B2.out.size))
  have B4 := hide (B3.out.trans (bM.mono B3.out.size))
  clear bU bM B2 B3 RA2 RB nU
  go_wp2_with fail
  go_loop [11, 12, 13, 14] (fun s11 s12 s13 s14 => ∃ k : Nat, k ≤ 60 ∧ s14 = .int .i64 k ∧ s11 = .bool (allF (fun k => !f k || g k) 0 k) ∧ s12 = .int .i64 (setF h1 0 k).length ∧ s13 = .int .i64 (setF h2 0 k).length) (fun _ _ _ s14 => 60 - (intOf s14).toNat)
  case atStart => exact ⟨0, by omega, rfl, rfl, rfl, rfl⟩
  case round =>
    obtain ⟨k, hk, rfl, rfl, rfl, rfl⟩ := hrel
    by_cases hk2 : k = 60
    · subst hk2
      rw [HU6.out, HM6.out, ← HW.out]
      have HWi := hide HW.out
      clear HW hA hB TU TM NU NM E1 E2 HU6 HM6 RU4 RMn lU lM kU kM
      have k1 := lA
      have k2 := lB
      go_wp2_with (first | (go_at_call 10; refine (hL _).mono ?_; rintro e w5 ⟨rfl, b5⟩; have RA5 := hide (RA4.out.keep' b5); have RB5 := hide (RB4.out.keep' b5); have B5 := hide (B4.out.trans (b5.mono B4.out.size)); clear hL b5 RA4 RB4 B4) | (go_at_call 29; refine (within_any A B a1 b1 c1' d1' _ (by exact RA5.out) (by exact RB5.out) (by omega) kB).mono ?_; rintro e w6 ⟨hw6, rfl⟩; obtain rfl := hw6.symm) | (go_at_call 30; refine (same_any A B a1 b1 c1' d1' _ (by exact RA5.out) (by exact RB5.out) (by omega) (by omega)).mono ?_; rintro e w7 ⟨⟨n7, rfl⟩, rfl⟩) | (go_at_call 12; refine (rsame_any A B a1 b1 c1' d1' _ (by exact RA5.out) (by exact RB5.out) (by omega) (by omega)).mono ?_; rintro e w8 ⟨⟨n8, rfl⟩, rfl⟩) | (go_at_call 28; refine (has_any A a1 c1' z _ (by exact RA5.out) (by omega) uA.out).mono ?_; rintro e w9 ⟨hw9, rfl⟩; obtain rfl := hw9.symm) | (go_at_call 27; refine (rhas_any A a1 c1' z _ (by exact RA5.out) (by omega)).mono ?_; rintro e w9 ⟨hw9, rfl⟩; obtain rfl := hw9.symm))
      go_ret
      exact ⟨by simp, by first | exact B5.out | exact below_drewN B5.out _ | exact below_drewN (below_drewN B5.out _) _⟩
    · have hk3 : k < 60 := by omega
      have hk4 : (k : Int) < 60 := by omega
      have p1 : Calls Tryd.prog 27 #[.slice a1 A.length c1', .int .i64 (k : Int)] w4 fun e w' => w' = w4 ∧ e = .returned (.bool (f k)) := by
        have t := rhas_any A a1 c1' k w4 RA4.out (by omega)
        rw [hA.out k (by omega) (by omega)] at t; exact t
      have p2 : Calls Tryd.prog 27 #[.slice b1 B.length d1', .int .i64 (k : Int)] w4 fun e w' => w' = w4 ∧ e = .returned (.bool (g k)) := by
        have t := rhas_any B b1 d1' k w4 RB4.out (by omega)
        rw [hB.out k (by omega) (by omega)] at t; exact t
      have p3 : Calls Tryd.prog 28 #[.slice a1 A.length c1', .int .i64 (k : Int)] w4 fun e w' => w' = w4 ∧ e = .returned (.bool (f k)) := by
        have t := has_any A a1 c1' k w4 RA4.out (by omega) uA.out
        rw [hA.out k (by omega) (by omega)] at t; exact t
      have p4 : Calls Tryd.prog 28 #[.slice b1 B.length d1', .int .i64 (k : Int)] w4 fun e w' => w' = w4 ∧ e = .returned (.bool (g k)) := by
        have t := has_any B b1 d1' k w4 RB4.out (by omega) uB.out
        rw [hB.out k (by omega) (by omega)] at t; exact t
      have q0 := hide (allF_succ (fun k => !f k || g k) k 0)
      have q1 := hide (E1.out k)
      have q2 := hide (E2.out k)
      have tU := hide (fun hh => TU.out k hk3 hh)
      have tM := hide (fun hh => TM.out k hk3 hh)
      have nU := hide (fun hh => NU.out k hh)
      have nM := hide (fun hh => NM.out k hh)
      rw [Nat.zero_add] at q0
      generalize f k = p at *
      generalize g k = q at *
      generalize h1 k = r1 at *
      generalize h2 k = r2 at *
      generalize hi' : (setF h1 0 (k + 1)).length = i' at *
      generalize hj' : (setF h2 0 (k + 1)).length = j' at *
      have HI := hide hi'
      have HJ := hide hj'
      clear hi' hj'
      generalize (setF h1 0 k).length = i at *
      generalize (setF h2 0 k).length = j at *
      generalize ht' : allF (fun k => !f k || g k) 0 (k + 1) = t' at *
      have HT := hide ht'
      clear ht'
      generalize allF (fun k => !f k || g k) 0 k = t at *
      clear TU TM NU NM E1 E2 hA hB uA uB HW HU6 HM6 hL lA lB B4 RA4 RB4
      cases p with
      | false =>
        cases q with
        | false =>
          cases t with
          | false =>
            obtain rfl : r1 = false := by simpa using q1.out
            obtain rfl : r2 = false := by simpa using q2.out
            have zt : t' = false := by simpa using q0.out
            have u7 := nU.out rfl
            have m7 := nM.out rfl
            have ZI : Hid (i' = i) := u7
            have ZJ : Hid (j' = j) := m7
            have ZT := hide zt
            clear q0 q1 q2 tU tM nU nM zt u7 m7
            go_wp2_with (first | (go_at_call 27; refine p1.mono ?_; rintro e w' ⟨h, rfl⟩; obtain rfl := h.symm; clear p1) | (go_at_call 27; refine p2.mono ?_; rintro e w' ⟨h, rfl⟩; obtain rfl := h.symm; clear p2) | (go_at_call 28; refine p3.mono ?_; rintro e w' ⟨h, rfl⟩; obtain rfl := h.symm; clear p3) | (go_at_call 28; refine p4.mono ?_; rintro e w' ⟨h, rfl⟩; obtain rfl := h.symm; clear p4))
            exact ⟨⟨k + 1, by omega, by simp, by rw [HT.out, ZT.out], by (rw [HI.out, ZI.out]; try simp), by (rw [HJ.out, ZJ.out]; try simp)⟩, by simp [intOf]; omega⟩
          | true =>
            obtain rfl : r1 = false := by simpa using q1.out
            obtain rfl : r2 = false := by simpa using q2.out
            have zt : t' = true := by simpa using q0.out
            have u7 := nU.out rfl
            have m7 := nM.out rfl
            have ZI : Hid (i' = i) := u7
            have ZJ : Hid (j' = j) := m7
            have ZT := hide zt
            clear q0 q1 q2 tU tM nU nM zt u7 m7
            go_wp2_with (first | (go_at_call 27; refine p1.mono ?_; rintro e w' ⟨h, rfl⟩; obtain rfl := h.symm; clear p1) | (go_at_call 27; refine p2.mono ?_; rintro e w' ⟨h, rfl⟩; obtain rfl := h.symm; clear p2) | (go_at_call 28; refine p3.mono ?_; rintro e w' ⟨h, rfl⟩; obtain rfl := h.symm; clear p3) | (go_at_call 28; refine p4.mono ?_; rintro e w' ⟨h, rfl⟩; obtain rfl := h.symm; clear p4))
            exact ⟨⟨k + 1, by omega, by simp, by rw [HT.out, ZT.out], by (rw [HI.out, ZI.out]; try simp), by (rw [HJ.out, ZJ.out]; try simp)⟩, by simp [intOf]; omega⟩
        | true =>
          cases t with
          | false =>
            obtain rfl : r1 = true := by simpa using q1.out
            obtain rfl : r2 = false := by simpa using q2.out
            have zt : t' = false := by simpa using q0.out
            obtain ⟨u5, u6, u7⟩ := tU.out rfl
            have u8 : (i : Int) < U.length := by omega
            obtain ⟨bu, ou, rfl, hcu⟩ := RU4.out.at u5
            rw [u6] at hcu
            have m7 := nM.out rfl
            have ZI : Hid (i' = i + 1) := u7
            have ZJ : Hid (j' = j) := m7
            have ZT := hide zt
            clear q0 q1 q2 tU tM nU nM zt u7 m7 u6
            go_wp2_with (first | (go_at_call 27; refine p1.mono ?_; rintro e w' ⟨h, rfl⟩; obtain rfl := h.symm; clear p1) | (go_at_call 27; refine p2.mono ?_; rintro e w' ⟨h, rfl⟩; obtain rfl := h.symm; clear p2) | (go_at_call 28; refine p3.mono ?_; rintro e w' ⟨h, rfl⟩; obtain rfl := h.symm; clear p3) | (go_at_call 28; refine p4.mono ?_; rintro e w' ⟨h, rfl⟩; obtain rfl := h.symm; clear p4))
            exact ⟨⟨k + 1, by omega, by simp, by rw [HT.out, ZT.out], by (rw [HI.out, ZI.out]; try simp), by (rw [HJ.out, ZJ.out]; try simp)⟩, by simp [intOf]; omega⟩
          | true =>
            obtain rfl : r1 = true := by simpa using q1.out
            obtain rfl : r2 = false := by simpa using q2.out
            have zt : t' = true := by simpa using q0.out
            obtain ⟨u5, u6, u7⟩ := tU.out rfl
            have u8 : (i : Int) < U.length := by omega
            obtain ⟨bu, ou, rfl, hcu⟩ := RU4.out.at u5
            rw [u6] at hcu
            have m7 := nM.out rfl
            have ZI : Hid (i' = i + 1) := u7
            have ZJ : Hid (j' = j) := m7
            have ZT := hide zt
            clear q0 q1 q2 tU tM nU nM zt u7 m7 u6
            go_wp2_with (first | (go_at_call 27; refine p1.mono ?_; rintro e w' ⟨h, rfl⟩; obtain rfl := h.symm; clear p1) | (go_at_call 27; refine p2.mono ?_; rintro e w' ⟨h, rfl⟩; obtain rfl := h.symm; clear p2) | (go_at_call 28; refine p3.mono ?_; rintro e w' ⟨h, rfl⟩; obtain rfl := h.symm; clear p3) | (go_at_call 28; refine p4.mono ?_; rintro e w' ⟨h, rfl⟩; obtain rfl := h.symm; clear p4))
            exact ⟨⟨k + 1, by omega, by simp, by rw [HT.out, ZT.out], by (rw [HI.out, ZI.out]; try simp), by (rw [HJ.out, ZJ.out]; try simp)⟩, by simp [intOf]; omega⟩
      | true =>
        cases q with
        | false =>
          cases t with
          | false =>
            obtain rfl : r1 = true := by simpa using q1.out
            obtain rfl : r2 = true := by simpa using q2.out
            have zt : t' = false := by simpa using q0.out
            obtain ⟨u5, u6, u7⟩ := tU.out rfl
            have u8 : (i : Int) < U.length := by omega
            obtain ⟨bu, ou, rfl, hcu⟩ := RU4.out.at u5
            rw [u6] at hcu
            obtain ⟨m5, m6, m7⟩ := tM.out rfl
            have m8 : (j : Int) < M.length := by omega
            obtain ⟨bm, om, rfl, hcm⟩ := RMn.out.at m5
            rw [m6] at hcm
            have ZI : Hid (i' = i + 1) := u7
            have ZJ : Hid (j' = j + 1) := m7
            have ZT := hide zt
            clear q0 q1 q2 tU tM nU nM zt u7 m7 u6 m6
            go_wp2_with (first | (go_at_call 27; refine p1.mono ?_; rintro e w' ⟨h, rfl⟩; obtain rfl := h.symm; clear p1) | (go_at_call 27; refine p2.mono ?_; rintro e w' ⟨h, rfl⟩; obtain rfl := h.symm; clear p2) | (go_at_call 28; refine p3.mono ?_; rintro e w' ⟨h, rfl⟩; obtain rfl := h.symm; clear p3) | (go_at_call 28; refine p4.mono ?_; rintro e w' ⟨h, rfl⟩; obtain rfl := h.symm; clear p4))
            exact ⟨⟨k + 1, by omega, by simp, by rw [HT.out, ZT.out], by (rw [HI.out, ZI.out]; try simp), by (rw [HJ.out, ZJ.out]; try simp)⟩, by simp [intOf]; omega⟩
          | true =>
            obtain rfl : r1 = true := by simpa using q1.out
            obtain rfl : r2 = true := by simpa using q2.out
            have zt : t' = false := by simpa using q0.out
            obtain ⟨u5, u6, u7⟩ := tU.out rfl
            have u8 : (i : Int) < U.length := by omega
            obtain ⟨bu, ou, rfl, hcu⟩ := RU4.out.at u5
            rw [u6] at hcu
            obtain ⟨m5, m6, m7⟩ := tM.out rfl
            have m8 : (j : Int) < M.length := by omega
            obtain ⟨bm, om, rfl, hcm⟩ := RMn.out.at m5
            rw [m6] at hcm
            have ZI : Hid (i' = i + 1) := u7
            have ZJ : Hid (j' = j + 1) := m7
            have ZT := hide zt
            clear q0 q1 q2 tU tM nU nM zt u7 m7 u6 m6
            go_wp2_with (first | (go_at_call 27; refine p1.mono ?_; rintro e w' ⟨h, rfl⟩; obtain rfl := h.symm; clear p1) | (go_at_call 27; refine p2.mono ?_; rintro e w' ⟨h, rfl⟩; obtain rfl := h.symm; clear p2) | (go_at_call 28; refine p3.mono ?_; rintro e w' ⟨h, rfl⟩; obtain rfl := h.symm; clear p3) | (go_at_call 28; refine p4.mono ?_; rintro e w' ⟨h, rfl⟩; obtain rfl := h.symm; clear p4))
            exact ⟨⟨k + 1, by omega, by simp, by rw [HT.out, ZT.out], by (rw [HI.out, ZI.out]; try simp), by (rw [HJ.out, ZJ.out]; try simp)⟩, by simp [intOf]; omega⟩
        | true =>
          cases t with
          | false =>
            obtain rfl : r1 = true := by simpa using q1.out
            obtain rfl : r2 = false := by simpa using q2.out
            have zt : t' = false := by simpa using q0.out
            obtain ⟨u5, u6, u7⟩ := tU.out rfl
            have u8 : (i : Int) < U.length := by omega
            obtain ⟨bu, ou, rfl, hcu⟩ := RU4.out.at u5
            rw [u6] at hcu
            have m7 := nM.out rfl
            have ZI : Hid (i' = i + 1) := u7
            have ZJ : Hid (j' = j) := m7
            have ZT := hide zt
            clear q0 q1 q2 tU tM nU nM zt u7 m7 u6
            go_wp2_with (first | (go_at_call 27; refine p1.mono ?_; rintro e w' ⟨h, rfl⟩; obtain rfl := h.symm; clear p1) | (go_at_call 27; refine p2.mono ?_; rintro e w' ⟨h, rfl⟩; obtain rfl := h.symm; clear p2) | (go_at_call 28; refine p3.mono ?_; rintro e w' ⟨h, rfl⟩; obtain rfl := h.symm; clear p3) | (go_at_call 28; refine p4.mono ?_; rintro e w' ⟨h, rfl⟩; obtain rfl := h.symm; clear p4))
            exact ⟨⟨k + 1, by omega, by simp, by rw [HT.out, ZT.out], by (rw [HI.out, ZI.out]; try simp), by (rw [HJ.out, ZJ.out]; try simp)⟩, by simp [intOf]; omega⟩
          | true =>
            obtain rfl : r1 = true := by simpa using q1.out
            obtain rfl : r2 = false := by simpa using q2.out
            have zt : t' = true := by simpa using q0.out
            obtain ⟨u5, u6, u7⟩ := tU.out rfl
            have u8 : (i : Int) < U.length := by omega
            obtain ⟨bu, ou, rfl, hcu⟩ := RU4.out.at u5
            rw [u6] at hcu
            have m7 := nM.out rfl
            have ZI : Hid (i' = i + 1) := u7
            have ZJ : Hid (j' = j) := m7
            have ZT := hide zt
            clear q0 q1 q2 tU tM nU nM zt u7 m7 u6
            go_wp2_with (first | (go_at_call 27; refine p1.mono ?_; rintro e w' ⟨h, rfl⟩; obtain rfl := h.symm; clear p1) | (go_at_call 27; refine p2.mono ?_; rintro e w' ⟨h, rfl⟩; obtain rfl := h.symm; clear p2) | (go_at_call 28; refine p3.mono ?_; rintro e w' ⟨h, rfl⟩; obtain rfl := h.symm; clear p3) | (go_at_call 28; refine p4.mono ?_; rintro e w' ⟨h, rfl⟩; obtain rfl := h.symm; clear p4))
            exact ⟨⟨k + 1, by omega, by simp, by rw [HT.out, ZT.out], by (rw [HI.out, ZI.out]; try simp), by (rw [HJ.out, ZJ.out]; try simp)⟩, by simp [intOf]; omega⟩
end Go.Proofs.YtidhcmhheohciaaDoor
namespace Go.Proofs.YtidhcmhheohciaaDoor
open Go.ChangeShapes Go.WideShapes Go.ChangeAt Go.RowKit

theorem own : ownKnob Tryd.prog.godebug = none := by kernel_rfl
theorem laidOut : laidOutB Tryd.prog = true := by kernel_rfl
theorem Tryd.et : Tryd.prog.globalNamed "errors.errorType" = some 0 := by kernel_rfl
theorem Tryd.rt : (Tryd.prog.cutTypes.find? (·.1 == "internal/reflectlite.rtype")).map (·.2) = some 94 := by kernel_rfl
theorem Tryd.oneRow : ((List.range 154).filter fun t => Tryd.prog.rowNamed t [101, 114, 114, 111, 114]) = [27] := by kernel_rfl
theorem Tryd.size : Tryd.prog.types.size = 154 := by kernel_rfl
theorem hh27 : typeHandle Tryd.prog 27 = .pointer (some ⟨1, 27, none⟩) := by kernel_rfl

def laid1 : List (String × DataW Unit) := [("errors.errorType", Rows.laid_errors_errorType)]
/-- what the listed variable gives a walk: its one cell -/
theorem glob_of_laid {W : World} (h : laidMetH Tryd.prog laid1 W) : Glob W := by
  have h' : laidMet Tryd.prog [] W ∧ handlesMet Tryd.prog laid1 W := h
  obtain ⟨name, u, ty, e1, e2, e3, e4, e5⟩ := h'.2 _ (List.mem_singleton.2 rfl)
  have en : name = [101, 114, 114, 111, 114] := (Option.some.inj e1).symm
  subst en
  obtain rfl := Option.some.inj (Tryd.rt.symm.trans e2)
  have hm : ty ∈ (List.range 154).filter fun t => Tryd.prog.rowNamed t [101, 114, 114, 111, 114] := List.mem_filter.2 ⟨List.mem_range.2 (by rw [← Tryd.size]; exact e3), e4⟩
  rw [Tryd.oneRow] at hm
  obtain rfl := List.mem_singleton.1 hm
  rw [hh27] at e5
  have := World.var?_cell Tryd.et e5 0
  unfold Glob
  simpa using this
theorem laid1_met (os : Os) (args : Array Value) : laidMetH Tryd.prog laid1 ((World.doorLaid Tryd.prog 31 os).forCall (fun _ _ => 0) ⟨#[], args, []⟩).memory :=
  laidMetH_of_parts3 (fuel := 8) (laidMet_of_run' 8 (by kernel_rfl) (by kernel_rfl)) (by kernel_rfl) (by kernel_rfl)

/-- what a walk is told of a []int that came in: zs are its numbers up to its capacity -/
def InI (W : World) (a : Option Addr) (len cap : Nat) (zs : List Int) : Prop :=
  Row W a (W64 zs) ∧ zs.length = cap ∧ len ≤ cap ∧ (a = none → cap = 0) ∧ cap * 8 ≤ 140737488351232 ∧ ∀ n ∈ zs, (Lit.int .i64 n).wf = true
theorem Tryd.cells3 : Tryd.prog.cellsOf 3 = 1 := by kernel_rfl
theorem Tryd.bytes3 : Tryd.prog.bytesOf 3 = 8 := by kernel_rfl
theorem open_ints64 {H : Type} {enc : TypeId × Value → H} {W : World} {b0 : Nat} {bl : Bool} {a : Option Addr} {len cap : Nat} {ts : List TypeId} {ds : List (DataW H)} {j : Nat} {d0 : DataW H} {p0 : List MemPlace}
    (h0 : ∃ fuel, DataW.trod enc Tryd.prog W b0 (fun _ => true) bl fuel 22 (Value.slice a len cap).cells.toList = some (d0, p0))
    (hsz : (DataW.weightsEach Tryd.prog ts ds).all (· ≤ reachBytes) = true) (ht : ts[j]? = some 22) (hd : ds[j]? = some d0) : ∃ zs, InI W a len cap zs := by
  obtain ⟨fuel, hf⟩ := h0
  rcases open_ints Tryd.underlying22 Tryd.underlying3 Tryd.cells3 hf with ⟨hcs, _⟩ | ⟨x, l, c, zs, hcs, _, hl, hm, hz, hx, hcell, hwz⟩
  · simp [Value.cells] at hcs
    obtain ⟨rfl, rfl, rfl⟩ := hcs
    exact ⟨[], .inl ⟨rfl, rfl⟩, rfl, Nat.le_refl _, fun _ => rfl, by omega, by simp⟩
  · simp [Value.cells] at hcs
    obtain ⟨rfl, rfl, rfl⟩ := hcs
    simp only [Prod.mk.injEq] at hx
    obtain ⟨rfl, _⟩ := hx
    have hs := sized_slice hsz ht hd Tryd.underlying22
    rw [Tryd.bytes3] at hs
    simp only [lits, List.length_map, List.length_take, List.length_drop, reachBytes] at hs
    have hz' : zs.length = cap := by simpa using hz
    refine ⟨zs, .inr ⟨x, rfl, fun j u hj => ?_⟩, hz', hl, (fun h => by cases h), by omega, hwz⟩
    simp only [W64, List.getElem?_map, Option.map_eq_some_iff] at hj
    obtain ⟨n, hn, rfl⟩ := hj
    obtain ⟨hlt, hn'⟩ := List.getElem?_eq_some_iff.1 hn
    rw [hcell j hlt]
    simp [hn]
theorem Ri.ofRow {w : World} {a : Option Addr} {zs : List Int} (h : Row w a (W64 zs)) : Ri w a zs := fun i x hx => h.at (by simp [W64, hx])
theorem Ri.take {w : World} {a : Option Addr} {zs : List Int} (h : Ri w a zs) (n : Nat) : Ri w a (zs.take n) := fun i x hx => h i x (by
  rw [List.getElem?_take] at hx
  split at hx
  · exact hx
  · exact absurd hx (by simp))
/-- its numbers -/
theorem InI.read {W : World} {a : Option Addr} {len cap : Nat} {zs : List Int} (h : InI W a len cap zs) : ∃ xs : List Int, xs.length = len ∧ Ri W a xs ∧ xs.length ≤ cap ∧ (a = none → cap = 0) ∧ xs.length ≤ 17592186043904 ∧ ∀ x ∈ xs, -9223372036854775808 ≤ x ∧ x ≤ 9223372036854775807 := by
  obtain ⟨h1, h2, h3, h4, h5, h6⟩ := h
  have e : (zs.take len).length = len := by rw [List.length_take]; omega
  refine ⟨zs.take len, e, (Ri.ofRow h1).take len, by omega, h4, by omega, fun x hx => ?_⟩
  have := h6 x (List.mem_of_mem_take hx)
  simp only [Lit.wf, Bool.and_eq_true, decide_eq_true_eq] at this
  exact ⟨this.1, this.2⟩
end Go.Proofs.YtidhcmhheohciaaDoor
namespace Go.Proofs.YtidhcmhheohciaaDoor
open Go.RowKit
theorem lebs_inj : ∀ (us vs : List Nat), (∀ x ∈ us, x < 18446744073709551616) → (∀ x ∈ vs, x < 18446744073709551616) → lebs us = lebs vs → us = vs
  | [], [], _, _, _ => rfl
  | [], b :: t, _, _, h => by
    rw [lebs_cons] at h
    have := congrArg List.length h
    have h1 := (lebF_length 9 b).1
    rw [List.length_append, show (lebs []).length = 0 from rfl] at this
    omega
  | a :: s, [], _, _, h => by
    rw [lebs_cons] at h
    have := congrArg List.length h
    have h1 := (lebF_length 9 a).1
    rw [List.length_append, show (lebs []).length = 0 from rfl] at this
    omega
  | a :: s, b :: t, ha, hb, h => by
    rw [lebs_cons, lebs_cons] at h
    have n1 := num_leb a (ha a (by simp)) (lebs s)
    have n2 := num_leb b (hb b (by simp)) (lebs t)
    rw [h, n2] at n1
    simp only [Prod.mk.injEq] at n1
    obtain ⟨rfl, -, -⟩ := n1
    have h2 := List.append_cancel_left h
    rw [lebs_inj s t (fun x hx => ha x (by simp [hx])) (fun x hx => hb x (by simp [hx])) h2]
theorem gapL_inj (n : Int) : ∀ (xs ys : List Int) (l : Int), rightL n l xs = true → rightL n l ys = true → gapL l xs = gapL l ys → xs = ys
  | [], [], _, _, _, _ => rfl
  | [], y :: t, _, _, _, h => by simp [gapL] at h
  | x :: s, [], _, _, _, h => by simp [gapL] at h
  | x :: s, y :: t, l, h1, h2, h => by
    have x0 := right_mem h1 x (by simp)
    have y0 := right_mem h2 y (by simp)
    rw [gapL, gapL, List.cons.injEq] at h
    have e : x = y := by omega
    subst e
    rw [rightL] at h1 h2
    rw [if_neg (by omega)] at h1 h2
    rw [gapL_inj n s t (x + 1) h1 h2 h.2]
theorem runsG_nil (f : Nat) (l : Int) : runsG f l [] = [] := by cases f <;> rfl
theorem runsG_inj (n : Int) : ∀ (f g : Nat) (xs ys : List Int) (l : Int), xs.length ≤ f → ys.length ≤ g → rightL n l xs = true → rightL n l ys = true → runsG f l xs = runsG g l ys → xs = ys
  | f, g, [], [], _, _, _, _, _, _ => rfl
  | f, 0, [], y :: t, _, _, h, _, _, _ => by simp at h
  | f, g + 1, [], y :: t, l, _, _, _, _, h => by rw [runsG_nil, runsG] at h; simp at h
  | 0, g, x :: s, ys, _, h, _, _, _, _ => by simp at h
  | f + 1, g, x :: s, [], l, _, _, _, _, h => by rw [runsG_nil, runsG] at h; simp at h
  | f + 1, 0, x :: s, y :: t, _, _, h, _, _, _ => by simp at h
  | f + 1, g + 1, x :: s, y :: t, l, hf, hg, h1, h2, h => by
    have x0 := right_mem h1 x (by simp)
    have y0 := right_mem h2 y (by simp)
    rw [runsG, runsG, List.cons.injEq, List.cons.injEq] at h
    have e : x = y := by omega
    subst e
    obtain ⟨-, h4, h5⟩ := h
    rw [rightL, if_neg (by omega)] at h1 h2
    have r1 := run_right n s (x + 1) h1
    have r2 := run_right n t (x + 1) h2
    have s1 := run_side s (x + 1)
    have s2 := run_side t (x + 1)
    rw [← h4] at h5 r2 s2
    have e2 : x + ((runL (x + 1) s + 1 : Nat) : Int) + 1 = x + 1 + (runL (x + 1) s : Nat) + 1 := by omega
    rw [e2] at h5
    have e3 := runsG_inj n f g (s.drop (runL (x + 1) s)) (t.drop (runL (x + 1) s)) _ (by simp at hf ⊢; omega) (by simp at hg ⊢; omega) r1 r2 h5
    rw [e3] at s1
    rw [← s1, s2]
theorem wayB_inj {n : Nat} {xs ys : List Int} (hn : n ≤ 4096) (hx : rightL n 0 xs = true) (hy : rightL n 0 ys = true) (h : wayB n xs (wayOf n xs) = wayB n ys (wayOf n ys)) : xs = ys := by
  rcases way_le n xs with e1 | e1 | e1 <;> rcases way_le n ys with e2 | e2 | e2 <;> rw [e1, e2] at h <;> simp [wayB] at h
  · have t1 := setF_plain hx n (Nat.le_refl _)
    have t2 := setF_plain hy n (Nat.le_refl _)
    rw [h, t2] at t1
    exact t1.symm
  · have t := lebs_inj _ _ (gapsA_lt hn hx) (gapsA_lt hn hy) h
    rw [gapsA, gapsA, List.cons.injEq] at t
    exact gapL_inj n xs ys 0 hx hy t.2
  · have t := lebs_inj _ _ (runsA_lt hn hx) (runsA_lt hn hy) h
    rw [runsA, runsA, List.cons.injEq] at t
    exact runsG_inj n _ _ xs ys 0 (Nat.le_refl _) (Nat.le_refl _) hx hy t.2
end Go.Proofs.YtidhcmhheohciaaDoor
