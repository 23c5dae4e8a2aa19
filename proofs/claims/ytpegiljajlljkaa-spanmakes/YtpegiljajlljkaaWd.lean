import Derived.Test.YtpegiljajlljkaaTo
import Derived.Lib.ItoaWalk
import Derived.Deep.CutBlock
import Derived.LoopTactic
import Derived.Deep.DeepCutAuto
namespace Go.Proofs.Ytpegiljajlljkaa
open Go.RowKit
/-- how many ends are none -/
def ext (s : Int × Int) : Nat := (if s.1 = -9223372036854775808 then 1 else 0) + (if s.2 = 9223372036854775807 then 1 else 0)
def wideP (a b : Int × Int) : Int × Int := (if b.1 < a.1 then -9223372036854775808 else a.1, if a.2 < b.2 then 9223372036854775807 else a.2)
theorem ext_le (s : Int × Int) : ext s ≤ 2 := by unfold ext; split <;> split <;> omega
theorem wide_sp (a b : Int × Int) (ha : Sp a) : Sp (wideP a b) := by
  unfold Sp at *
  unfold wideP
  dsimp only
  split <;> split <;> omega
theorem wide_in (a b : Int × Int) (ha : Sp a) (hb : Sp b) : withinR a.1 a.2 (wideP a b).1 (wideP a b).2 = true ∧ withinR b.1 b.2 (wideP a b).1 (wideP a b).2 = true := by
  unfold Sp at *
  unfold withinR wideP
  dsimp only
  simp only [Bool.and_eq_true, decide_eq_true_iff]
  split <;> split <;> omega
theorem wide_ext (a b : Int × Int) (hb : Sp b) (h : ¬ ((wideP a b).1 = a.1 ∧ (wideP a b).2 = a.2)) : ext a + 1 ≤ ext (wideP a b) := by
  unfold Sp at hb
  unfold wideP at *
  unfold ext
  dsimp only at *
  by_cases h1 : b.1 < a.1 <;> by_cases h2 : a.2 < b.2
  · simp only [if_pos h1, if_pos h2] at *; repeat' (first | omega | split | (exact absurd trivial (by assumption)))
  · simp only [if_pos h1, if_neg h2] at *; repeat' (first | omega | split | (exact absurd trivial (by assumption)))
  · simp only [if_neg h1, if_pos h2] at *; repeat' (first | omega | split | (exact absurd trivial (by assumption)))
  · rw [if_neg h1, if_neg h2] at h; exact absurd ⟨rfl, rfl⟩ h
/-- Spans in memory: two cells each -/
def RowS (w : World) (a : Option Addr) (ts : List (Int × Int)) : Prop :=
  ∀ m t, ts[m]? = some t → i64 t.1 ∧ i64 t.2 ∧ ∃ b o, a = some ⟨b, o, none⟩ ∧ w.cell? ⟨b, o + m * 2, none⟩ = some (.int .i64 t.1) ∧ w.cell? ⟨b, o + m * 2 + 1, none⟩ = some (.int .i64 t.2)
theorem fix_sp (x y : Int) (hx : i64 x) (hy : i64 y) : Sp (min x y, max x y) := by unfold i64 at *; unfold Sp; dsimp only; omega
theorem fix_pair (x y : Int) (w : World) : Calls Try.prog 11 #[.agg #[.int .i64 x, .int .i64 y]] w fun e w' => e = .returned (.agg #[.int .i64 ((min x y, max x y)).1, .int .i64 ((min x y, max x y)).2]) ∧ New2 w w' := fix_any x y w
theorem widen_pair (a b : Int × Int) (w : World) : Calls Try.prog 25 #[.agg #[.int .i64 a.1, .int .i64 a.2], .agg #[.int .i64 b.1, .int .i64 b.2]] w fun e w' => e = .returned (.agg #[.int .i64 (wideP a b).1, .int .i64 (wideP a b).2]) ∧ Below w.heap.size w w' := widen_any a.1 a.2 b.1 b.2 w
set_option maxRecDepth 100000 in
set_option maxHeartbeats 16000000 in
theorem swidens_walk (x y : Int) (a0 : Option Addr) (cap : Nat) (ts : List (Int × Int)) (w : World) (hx : i64 x) (hy : i64 y) (hrow : RowS w a0 ts) : Calls Try.prog 8 #[.agg #[.int .i64 x, .int .i64 y], .slice a0 ts.length cap] w fun e w' => e = .returned (.bool true) ∧ Below w.heap.size w w' := by
  have HR : Hid (RowS w a0 ts) := hrow
  have s0 := fix_sp x y hx hy
  have cF := fun w => fix_pair x y w
  clear hrow hx hy
  generalize (min x y, max x y) = X0 at *
  have hs : ∀ n m : Nat, n < m → n < m + 1 := fun n m h => by omega
  go_enter Try.func8, Try.ntmps8
  go_upto_region 2 with (first | (go_at_call 11; refine (bel2 (cF _)).mono ?_; rintro e wA ⟨rfl, hA⟩) | (go_at_call 10; refine (bel2 (to_any _ _ _)).mono ?_; rintro e wB ⟨rfl, hB⟩))
  go_name_world W hW
  have H1 : Hid (Bz W wB.heap.size X0.1 X0.2 ∧ Below w.heap.size w W ∧ w.heap.size ≤ wB.heap.size) := by
    rw [← hW]
    have u0 : Below w.heap.size w wA := ((Below.refl w.heap.size w).alloc (Nat.le_refl _) _).trans (hA.mono (by simp))
    have u := u0.trans (hB.mono u0.size)
    exact ⟨Bz.new _ _ _ _, u.alloc u.size _, u.size⟩
  clear hW hA hB cF
  generalize wB.heap.size = T at *
  go_wp2_with fail
  go_loopw [6, 7] (fun ch ix wr => ∃ (k c : Nat) (X : Int × Int), ix = .int .i64 k ∧ ch = .int .i64 c ∧ k ≤ 100 ∧ Hid (Sp X ∧ c ≤ ext X ∧ Bz wr T X.1 X.2 ∧ Below w.heap.size w wr ∧ w.heap.size ≤ T)) (fun _ i _ => 100 - (intOf i).toNat)
  case atStart => exact ⟨0, 0, X0, rfl, rfl, by omega, s0, Nat.zero_le _, H1.out⟩
  case round =>
    obtain ⟨k, c, X, rfl, rfl, hk, hS⟩ := hrel
    clear H1 s0
    have c2 : (c : Int) ≤ 2 := by have := hS.out.2.1; have := ext_le X; omega
    have c0 : (0 : Int) ≤ c := by omega
    have k0 : (0 : Int) ≤ k := by omega
    have k1 : (k : Int) ≤ 100 := by omega
    by_cases hlt : k < ts.length
    · have k2 : (k : Int) < ts.length := by omega
      by_cases h100 : k < 100
      · have k3 : (k : Int) < 100 := by omega
        obtain ⟨t, ht⟩ : ∃ t, ts[k]? = some t := ⟨ts[k]'hlt, by simp [hlt]⟩
        obtain ⟨it1, it2, b, o, rfl, e0, e1⟩ := HR.out k t ht
        have bl := World.block_lt_of_cell? _ _ e0
        have d0 := (hS.out.2.2.2.1.cell (p := ⟨b, o + k * 2, none⟩) bl).trans e0
        have d1 := (hS.out.2.2.2.1.cell (p := ⟨b, o + k * 2 + 1, none⟩) bl).trans e1
        have sC := fix_sp t.1 t.2 it1 it2
        have cC := fun w => fix_pair t.1 t.2 w
        clear it1 it2 e0 e1 bl ht
        generalize (min t.1 t.2, max t.1 t.2) = C at *
        go_upto_region 7 with (first | (go_at_call 11; refine (bel2 (cC _)).mono ?_; rintro e wA ⟨rfl, hA⟩) | (go_at_call 10; refine (bel2 (to_any _ _ _)).mono ?_; rintro e wB ⟨rfl, hB⟩))
        go_name_world W6 hW6
        have H6 : Hid (Bz W6 T X.1 X.2 ∧ Bx W6 wB.heap.size C.1 C.2 ∧ Below w.heap.size w W6 ∧ T ≠ wB.heap.size) := by
          rw [← hW6]
          have u0 := hS.out.2.2.2.1.trans (hA.mono hS.out.2.2.2.1.size)
          have u := u0.trans (hB.mono u0.size)
          have v := (hS.out.2.2.1.keep hA).keep hB
          exact ⟨v.keep ((Below.refl _ _).alloc (Nat.le_refl _) _), Bx.new _ _ _ _, u.alloc u.size _, Nat.ne_of_lt v.1.lt⟩
        clear hW6 hA hB cC d0 d1
        generalize wB.heap.size = T8 at *
        have a0 := H6.out.1.1.1
        have a1 := H6.out.1.1.2
        have b0 := H6.out.2.1.1
        have b1 := H6.out.2.1.2
        go_upto_region 8 with (go_at_call 25; refine (widen_pair X C _).mono ?_; rintro e wK ⟨rfl, hK⟩)
        go_name_world W7 hW7
        have H7 : Hid (Bz W7 T X.1 X.2 ∧ Bx W7 T8 C.1 C.2 ∧ Bx W7 wK.heap.size (wideP X C).1 (wideP X C).2 ∧ Below w.heap.size w W7 ∧ T ≠ wK.heap.size) := by
          rw [← hW7]
          have u := H6.out.2.2.1.trans (hK.mono H6.out.2.2.1.size)
          have v := H6.out.1.keep hK
          exact ⟨v.keep ((Below.refl _ _).alloc (Nat.le_refl _) _), (H6.out.2.1.keep hK).keep ((Below.refl _ _).alloc (Nat.le_refl _) _), Bx.new _ _ _ _, u.alloc u.size _, Nat.ne_of_lt v.1.lt⟩
        clear hW7 hK H6 a0 a1 b0 b1
        generalize wK.heap.size = T9 at *
        have hW := wide_in X C hS.out.1 sC
        have w1 := hW.1
        have w2 := hW.2
        clear hW
        have a0 := H7.out.1.1.1
        have a1 := H7.out.1.1.2
        have b0 := H7.out.2.1.1
        have b1 := H7.out.2.1.2
        have b2 := H7.out.2.1.lt
        have b3 := hs _ _ b2
        have b4 := hs _ _ b3
        have e0 := H7.out.2.2.1.1
        have e1 := H7.out.2.2.1.2
        have e2 := H7.out.2.2.1.lt
        have e3 := hs _ _ e2
        have e4 := hs _ _ e3
        go_upto_region 10 with (go_at_call 23; refine (within_any _ _ _ _ _).mono ?_; rintro e w1 ⟨rfl, o1, o2, rfl⟩)
        go_name_world W8 hW8
        have H8 : Hid (Bz W8 T X.1 X.2 ∧ Bx W8 T9 (wideP X C).1 (wideP X C).2 ∧ Below w.heap.size w W8 ∧ T ≠ T9) := by
          rw [← hW8]
          have f : Below W7.heap.size W7 W8 := by rw [← hW8]; exact (by repeat (first | exact Below.refl _ _ | (refine Below.drew ?_) | (refine below_drewN ?_ _) | (refine Below.setCell ?_ (by first | omega | (simp; done) | (simp; omega)) _) | (refine Below.alloc ?_ (by first | omega | (simp; done) | (simp; omega)) _) | (refine Below.trans ?_ (Below.mono (by assumption) (by first | omega | (simp; done) | (simp; omega))))))
          rw [hW8]
          exact ⟨H7.out.1.keep f, H7.out.2.2.1.keep f, H7.out.2.2.2.1.trans (f.mono H7.out.2.2.2.1.size), H7.out.2.2.2.2⟩
        clear hW8 H7 a0 a1 b0 b1 b2 b3 b4 e0 e1 e2 e3 e4
        have a0 := H8.out.1.1.1
        have a1 := H8.out.1.1.2
        have a2 := H8.out.1.2.1
        have a3 := H8.out.1.2.2
        have e0 := H8.out.2.1.1
        have e1 := H8.out.2.1.2
        have HE : Hid (∀ (v : Int × Int), Bz ((W8.setCell ⟨T, 0, none⟩ (.int .i64 v.1)).setCell ⟨T, 1, none⟩ (.int .i64 v.2)) T v.1 v.2 ∧ Below w.heap.size w ((W8.setCell ⟨T, 0, none⟩ (.int .i64 v.1)).setCell ⟨T, 1, none⟩ (.int .i64 v.2))) := fun v => ⟨H8.out.1.wrote, (H8.out.2.2.1.setCell (p := ⟨T, 0, none⟩) hS.out.2.2.2.2 _).setCell (p := ⟨T, 1, none⟩) hS.out.2.2.2.2 _⟩
        by_cases hY : (wideP X C).1 = X.1 ∧ (wideP X C).2 = X.2
        · have hd : ((wideP X C).1 == X.1) = true := by simp [hY.1]
          have hd2 : ((wideP X C).2 == X.2) = true := by simp [hY.2]
          have HY : Hid (wideP X C = X) := Prod.ext hY.1 hY.2
          clear hY
          have HG : Hid (c ≤ ext (wideP X C)) := by unfold Hid; rw [HY.out]; exact hS.out.2.1
          go_wp2_with fail
          go_round
          case rel => exact ⟨k + 1, c, wideP X C, by push_cast; rfl, rfl, by omega, wide_sp X C hS.out.1, HG.out, (HE.out (wideP X C)).1, (HE.out (wideP X C)).2, hS.out.2.2.2.2⟩
          case measure => simp [intOf]; omega
        · have HG : Hid (c + 1 ≤ ext (wideP X C)) := by unfold Hid; have := wide_ext X C sC hY; have := hS.out.2.1; omega
          have hd : ((wideP X C).1 == X.1 && (wideP X C).2 == X.2) = false := by
            rw [Bool.and_eq_false_iff, beq_eq_false_iff_ne, beq_eq_false_iff_ne]
            omega
          by_cases hY1 : (wideP X C).1 = X.1
          · have hY2 : ((wideP X C).2 == X.2) = false := by rw [beq_eq_false_iff_ne]; exact fun e => hY ⟨hY1, e⟩
            have HP : Hid ((X.1, (wideP X C).2) = wideP X C) := Prod.ext hY1.symm rfl
            have hY1 : ((wideP X C).1 == X.1) = true := by rw [beq_iff_eq]; exact hY1
            clear hY hd
            go_wp2_with fail
            go_round
            case rel => exact ⟨k + 1, c + 1, (X.1, (wideP X C).2), by push_cast; rfl, by push_cast; rfl, by omega, by rw [HP.out]; exact wide_sp X C hS.out.1, by rw [HP.out]; exact HG.out, (HE.out (X.1, (wideP X C).2)).1, (HE.out (X.1, (wideP X C).2)).2, hS.out.2.2.2.2⟩
            case measure => simp [intOf]; omega
          · have hY1 : ((wideP X C).1 == X.1) = false := by rw [beq_eq_false_iff_ne]; exact hY1
            clear hY hd
            go_wp2_with fail
            go_round
            case rel => exact ⟨k + 1, c + 1, wideP X C, by push_cast; rfl, by push_cast; rfl, by omega, wide_sp X C hS.out.1, HG.out, (HE.out (wideP X C)).1, (HE.out (wideP X C)).2, hS.out.2.2.2.2⟩
            case measure => simp [intOf]; omega
      · have k3 : ¬ (k : Int) < 100 := by omega
        go_wp2_with (go_at_call 14; refine (told_any _).mono ?_; rintro e wT ⟨rfl, hT⟩)
        go_ret
        exact ⟨rfl, hS.out.2.2.2.1.trans (hT.mono hS.out.2.2.2.1.size)⟩
    · have k2 : ¬ (k : Int) < ts.length := by omega
      go_wp2_with (go_at_call 14; refine (told_any _).mono ?_; rintro e wT ⟨rfl, hT⟩)
      go_ret
      exact ⟨rfl, hS.out.2.2.2.1.trans (hT.mono hS.out.2.2.2.1.size)⟩
end Go.Proofs.Ytpegiljajlljkaa
