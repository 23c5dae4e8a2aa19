import Derived.Test.YtmpmefnaepnfnaaKt
import Derived.Deep.DeepCutAuto
import Derived.Deep.CutBlock
import Derived.Lib.ItoaWalk
import Derived.Deep.QuietTactic
import Derived.BigQuiet
namespace Go.Proofs.Ytmpmefnaepnfnaa
open Go.RowKit
theorem with_new (n : Int) (is : Bool) (w : World) : Calls Try.prog 27 #[.int .i64 n, .bool is] w fun e w' => e = .returned (.agg #[.bool is, .int .i64 (cleanN is n)]) ∧ New2 w w' := by
  cases is <;>
  · go_enter Try.func27, Try.ntmps27
    go_wp2_with (first | (go_at_call 14; refine (any_any _).mono ?_; rintro e w' ⟨rfl, o, rfl⟩) | (go_at_call 13; refine (of_any _ _).mono ?_; rintro e w' ⟨rfl, o, rfl⟩))
    exact bodyPost_ret (by simp [results, Try.results27, go_sem]; try rfl) rfl ⟨by simp [cleanN], _, _, rfl⟩
theorem i64_clean (b : Bool) (n : Int) (h : i64 n) : i64 (cleanN b n) := by
  unfold cleanN
  split
  · exact h
  · unfold i64; omega
theorem ks_one3 (a : Bool) (x : Int) : hasK (oneI 3 a) (oneN 3 a (cleanN a x)) (wrap64 (-x)) = true := by cases a <;> simp [hasK, oneI, oneN, cleanN]
theorem ks_one2 (a : Bool) (x : Int) : hasK (oneI 2 a) (oneN 2 a (cleanN a x)) x = true := by cases a <;> simp [hasK, oneI, oneN, cleanN]
theorem ks_brok (a : Bool) (x : Int) : brOk a (cleanN a x) (x != 0) = true := by
  by_cases h : x = 0
  · subst h; cases a <;> rfl
  · cases a <;> simp [brOk, cleanN, h]
theorem ks_br (a : Bool) (x : Int) : hasK (brI a (cleanN a x) (x != 0)) (brN a (cleanN a x) (x != 0)) x = true := by
  by_cases h : x = 0
  · subst h; cases a <;> rfl
  · cases a <;> simp [hasK, brI, brN, cleanN, h]
theorem ks_two (op x y : Int) (a b : Bool) (h : (arith op x y).2 = true) : twoOk op b (cleanN b y) = true ∧ hasK (twoI op a b (cleanN b y)) (twoN op a (cleanN a x) b (cleanN b y)) (arith op x y).1 = true := by
  have h1 : 4 ≤ op ∧ op ≤ 12 := by
    apply Classical.byContradiction
    intro hn
    have : arith op x y = (0, false) := by
      unfold arith
      rw [if_neg (by omega), if_neg (by omega), if_neg (by omega), if_neg (by omega), if_neg (by omega), if_neg (by omega), if_neg (by omega), if_neg (by omega), if_neg (by omega)]
    rw [this] at h
    cases h
  have h2 : (op = 7 ∨ op = 8) → y ≠ 0 := fun ho hy => by
    rw [hy] at h
    rcases ho with rfl | rfl <;> simp [arith] at h
  have h3 : twoOk op b (cleanN b y) = true := by
    cases b
    · simp [twoOk, h1]
    · by_cases ho : op = 7 ∨ op = 8
      · have := h2 ho
        simp [twoOk, cleanN, h1, this]
      · have n7 : op ≠ 7 := fun e => ho (.inl e)
        have n8 : op ≠ 8 := fun e => ho (.inr e)
        simp [twoOk, h1, n7, n8]
  refine ⟨h3, ?_⟩
  cases a
  · simp [hasK, twoI]
  · cases b
    · simp [hasK, twoI]
    · have h4 : twoOk op true y = true := by simpa [cleanN] using h3
      simp [hasK, twoI, twoN, cleanN, h4]
/-- a box that may be written -/
def Bz (w : World) (p : Nat) (b : Bool) (n : Int) : Prop := Bx w p b n ∧ w.frozen? ⟨p, 0, none⟩ = false ∧ w.frozen? ⟨p, 1, none⟩ = false
theorem Bz.keep {w w' : World} {p : Nat} {b : Bool} {n : Int} (h : Bz w p b n) (hb : Below w.heap.size w w') : Bz w' p b n :=
  ⟨h.1.keep hb, (hb.frozen (p := ⟨p, 0, none⟩) h.1.lt).trans h.2.1, (hb.frozen (p := ⟨p, 1, none⟩) h.1.lt).trans h.2.2⟩
theorem Bz.new (w : World) (b : Bool) (n : Int) (t : TypeId) : Bz (w.alloc (.cells #[.bool b, .int .i64 n] t)) w.heap.size b n := ⟨Bx.new w b n t, by simp, by simp⟩
set_option maxRecDepth 100000 in
set_option maxHeartbeats 8000000 in
theorem ksound_walk (op x y : Int) (a0 a1 : Bool) (w : World) (hx : i64 x) (hy : i64 y) : Calls Try.prog 5 #[.int .i64 op, .agg #[.int .i64 x, .int .i64 y], .agg #[.bool a0, .bool a1]] w fun e w' => e = .returned (.bool true) ∧ Below w.heap.size w w' := by
  have x0 : ∀ nq, ((((w.alloc (.cells #[.int .i64 x, .int .i64 y] 49)).alloc (.cells #[.bool a0, .bool a1] 50)).drewN nq).cell? ⟨w.heap.size + 1, 0, none⟩ = some (.bool a0) ∧ (((w.alloc (.cells #[.int .i64 x, .int .i64 y] 49)).alloc (.cells #[.bool a0, .bool a1] 50)).drewN nq).cell? ⟨w.heap.size + 1, 1, none⟩ = some (.bool a1) ∧ w.heap.size + 1 < (((w.alloc (.cells #[.int .i64 x, .int .i64 y] 49)).alloc (.cells #[.bool a0, .bool a1] 50)).drewN nq).heap.size ∧ Below w.heap.size w (((w.alloc (.cells #[.int .i64 x, .int .i64 y] 49)).alloc (.cells #[.bool a0, .bool a1] 50)).drewN nq)) := fun nq => ⟨by simp, by simp, by simp, ⟨rfl, rfl, rfl, by simp; omega, fun k hk => ((((Below.refl w.heap.size w).alloc (Nat.le_refl _) _).alloc (by simp) _).block k hk)⟩⟩
  go_enter Try.func5, Try.ntmps5
  go_wp2
  go_quiet (fail)
  go_upto_region 2 with fail
  have x1 := x0 nq
  clear x0
  go_name_world W hW
  rw [hW] at x1
  clear hW
  obtain ⟨B, hB⟩ : ∃ B, B = w.heap.size := ⟨_, rfl⟩
  rw [← hB] at x1 ⊢
  have HB : Hid (B = w.heap.size) := hB
  clear hB
  have lt1 := x1.2.2.1
  have hcl : ∀ a b : World, (a.cell? ⟨B + 1, 0, none⟩ = some (.bool a0) ∧ a.cell? ⟨B + 1, 1, none⟩ = some (.bool a1) ∧ B + 1 < a.heap.size ∧ Below B w a) → Below a.heap.size a b → (b.cell? ⟨B + 1, 0, none⟩ = some (.bool a0) ∧ b.cell? ⟨B + 1, 1, none⟩ = some (.bool a1) ∧ B + 1 < b.heap.size ∧ Below B w b) := fun a b h hb =>
    ⟨(hb.cell (p := ⟨B + 1, 0, none⟩) h.2.2.1).trans h.1, (hb.cell (p := ⟨B + 1, 1, none⟩) h.2.2.1).trans h.2.1, Nat.lt_of_lt_of_le h.2.2.1 hb.size, h.2.2.2.trans (hb.mono (by omega))⟩
  have HCL : Hid _ := hcl
  clear hcl
  have hset : ∀ (b : World) (Q : Nat) (v u : Value), B + 1 < Q → (b.cell? ⟨B + 1, 0, none⟩ = some (.bool a0) ∧ b.cell? ⟨B + 1, 1, none⟩ = some (.bool a1) ∧ B + 1 < b.heap.size ∧ Below B w b) → (((b.setCell ⟨Q, 0, none⟩ v).setCell ⟨Q, 1, none⟩ u).cell? ⟨B + 1, 0, none⟩ = some (.bool a0) ∧ ((b.setCell ⟨Q, 0, none⟩ v).setCell ⟨Q, 1, none⟩ u).cell? ⟨B + 1, 1, none⟩ = some (.bool a1) ∧ B + 1 < ((b.setCell ⟨Q, 0, none⟩ v).setCell ⟨Q, 1, none⟩ u).heap.size ∧ Below B w ((b.setCell ⟨Q, 0, none⟩ v).setCell ⟨Q, 1, none⟩ u)) := fun b Q v u h h2 => by
    have ne : ∀ k j : Nat, (⟨Q, j, none⟩ : Addr) ≠ ⟨B + 1, k, none⟩ := fun k j e => by
      have := congrArg Addr.block e
      simp at this
      omega
    exact ⟨(World.cell?_setCell_other _ _ _ _ (ne 0 1)).trans ((World.cell?_setCell_other _ _ _ _ (ne 0 0)).trans h2.1), (World.cell?_setCell_other _ _ _ _ (ne 1 1)).trans ((World.cell?_setCell_other _ _ _ _ (ne 1 0)).trans h2.2.1), by simpa using h2.2.2.1, (h2.2.2.2.setCell (p := ⟨Q, 0, none⟩) (show B ≤ Q by omega) v).setCell (p := ⟨Q, 1, none⟩) (show B ≤ Q by omega) u⟩
  have HSET : Hid _ := hset
  clear hset
  have mk1 : ∀ wx : World, (wx.cell? ⟨B + 1, 0, none⟩ = some (.bool a0) ∧ wx.cell? ⟨B + 1, 1, none⟩ = some (.bool a1) ∧ B + 1 < wx.heap.size ∧ Below B w wx) → B ≤ wx.heap.size ∧ Below B w wx := fun wx h => ⟨by have := h.2.2.1; omega, h.2.2.2⟩
  go_cut [9, 10] (fun v9 v10 wx => ∃ p q, v9 = .pointer (some ⟨p, 0, none⟩) ∧ v10 = .pointer (some ⟨q, 0, none⟩) ∧ Hid (Bz wx p a0 (cleanN a0 x) ∧ Bz wx q a1 (cleanN a1 y) ∧ B ≤ wx.heap.size ∧ Below B w wx))
  case first =>
    (go_region_held3 (fun w' => w'.cell? ⟨B + 1, 0, none⟩ = some (.bool a0) ∧ w'.cell? ⟨B + 1, 1, none⟩ = some (.bool a1) ∧ B + 1 < w'.heap.size ∧ Below B w w')
          ((first | assumption | exact HCL.out _ _ x1 ((by repeat (first | exact Below.refl _ _ | (refine Below.drew ?_) | (refine Below.setCell ?_ (by first | omega | (simp; done) | (simp; omega)) _) | (refine Below.alloc ?_ (by first | omega | (simp; done) | (simp; omega)) _) | (refine Below.trans ?_ (Below.mono (by assumption) (by first | omega | (simp; done) | (simp; omega)))))))))
          ((first
            | (go_at_call 27; refine (with_new _ _ _).mono ?_; rintro e w2 ⟨rfl, o1, o2, rfl⟩)
            | fail)))
    all_goals (go_wp2; go_meet; case rel => exact ⟨_, _, rfl, rfl, ⟨⟨by simp [go_sem], by simp [go_sem]⟩, by simp [go_sem], by simp [go_sem]⟩, ⟨⟨by simp [go_sem], by simp [go_sem]⟩, by simp [go_sem], by simp [go_sem]⟩, mk1 _ (by assumption)⟩)
  case rest =>
    obtain ⟨p, q, rfl, rfl, HH⟩ := hcut
    clear x1 lt1 HCL HSET mk1
    have hB := HB.out
    subst hB
    clear HB
    obtain ⟨yp, yq, -, yW⟩ := HH.out
    clear HH
    have cp0 := yp.1.1
    have cp1 := yp.1.2
    have cq0 := yq.1.1
    have cq1 := yq.1.2
    have ic0 := i64_clean a0 x hx
    have ic1 := i64_clean a1 y hy
    have k1 := ks_one3 a0 x
    have k2 := ks_one2 a0 x
    have k3 := ks_br a0 x
    have k3b := ks_brok a0 x
    have k4 : oneOk 3 = true := rfl
    have k5 : oneOk 2 = true := rfl
    obtain ⟨hx1, hx2⟩ := id hx
    have kt := ks_two op x y a0 a1
    by_cases q1 : (arith op x y).2 = true
    · obtain ⟨kt1, kt2⟩ := kt q1
      clear kt
      go_wp2_with (first
        | (go_at_call 28; refine (arith_ref _ _ _ _ hx hy).mono ?_; rintro e w' ⟨rfl, h⟩; obtain rfl := h.symm)
        | (go_at_call 23; refine (two_any _ _ _ _ _ _ ic0 ic1).mono ?_; rintro e w4 ⟨rfl, hb4⟩; have P4 := yp.keep hb4; have R4 := Bz.new w4 (twoI op a0 a1 (cleanN a1 y)) (twoN op a0 (cleanN a0 x) a1 (cleanN a1 y)) 24; have F4 := yW.trans (hb4.mono yW.size); have pr4 := P4.1.lt; have hne : ¬ w4.heap.size = p := by omega)
        | (go_at_call 10; refine (told_any _).mono ?_; rintro e w5 ⟨rfl, hb5⟩; have P5 := (P4.keep ((Below.refl _ _).alloc (Nat.le_refl _) _)).keep hb5; have R5 := R4.keep hb5; have F5 := (F4.alloc F4.size _).trans (hb5.mono (Nat.le_trans F4.size (by simp))); have p50 := P5.1.1; have p51 := P5.1.2; have p52 := P5.1.lt; have r50 := R5.1.1; have r51 := R5.1.2; have r52 := R5.1.lt)
        | (go_at_call 15; refine (has_any _ _ _ _).mono ?_; rintro e w' ⟨rfl, o, rfl⟩)
        | (go_at_call_of 21 (Value.int .i64 3); refine (one_any _ _ _ _).mono ?_; rintro e w7 ⟨rfl, hb7⟩; have P7 : Bz w7 p a0 (cleanN a0 x) := (by first | exact P5.keep hb7 | exact (P5.keep ((Below.refl _ _).alloc (Nat.le_refl _) _)).keep hb7); have R7 : Bz w7 w4.heap.size _ _ := (by first | exact R5.keep hb7 | exact (R5.keep ((Below.refl _ _).alloc (Nat.le_refl _) _)).keep hb7); have F7 : Below w.heap.size w w7 := (by first | exact F5.trans (hb7.mono F5.size) | exact (F5.alloc F5.size _).trans (hb7.mono (Nat.le_trans F5.size (by simp)))); have p70 := P7.1.1; have p71 := P7.1.2; have r70 := R7.1.1; have r71 := R7.1.2; have r72 := R7.2.1; have r73 := R7.2.2)
        | (go_at_call_of 21 (Value.int .i64 2); refine (one_any _ _ _ _).mono ?_; rintro e w8 ⟨rfl, hb8⟩; have P8 := (Bx.set pr4 P7.1 (.bool (oneI 3 a0)) (.int .i64 (oneN 3 a0 (cleanN a0 x)))).keep hb8; have R8 := (Bx.wrote (i := oneI 3 a0) (n := oneN 3 a0 (cleanN a0 x)) R7.1.1 R7.1.2).keep hb8; have S8 := Bx.new w8 (oneI 2 a0) (oneN 2 a0 (cleanN a0 x)) 24; have F8 := ((F7.setCell (p := ⟨w4.heap.size, 0, none⟩) F4.size _).setCell (p := ⟨w4.heap.size, 1, none⟩) F4.size _).trans (hb8.mono (by simpa using F7.size)); have p80 := P8.1; have p81 := P8.2; have p82 := P8.lt; have r80 := R8.1; have r81 := R8.2; have r82 := R8.lt)
        | (go_at_call 25; refine (br_any _ _ _ _).mono ?_; rintro e w9 ⟨rfl, hb9⟩; have R9 := (R8.keep ((Below.refl _ _).alloc (Nat.le_refl _) _)).keep hb9; have S9 := S8.keep hb9; have F9 := (F8.alloc F8.size _).trans (hb9.mono (Nat.le_trans F8.size (by simp))); have r90 := R9.1; have r91 := R9.2; have r92 := R9.lt; have s90 := S9.1; have s91 := S9.2; have s92 := S9.lt))
      all_goals (go_ret; exact ⟨rfl, by repeat (first | exact F9 | (refine Below.alloc ?_ (by have := F9.size; simp; omega) _))⟩)
    · clear kt
      go_wp2_with (first
        | (go_at_call 28; refine (arith_ref _ _ _ _ hx hy).mono ?_; rintro e w' ⟨rfl, h⟩; obtain rfl := h.symm)
        | (go_at_call 23; refine (two_any _ _ _ _ _ _ ic0 ic1).mono ?_; rintro e w4 ⟨rfl, hb4⟩; have P4 := yp.keep hb4; have R4 := Bz.new w4 (twoI op a0 a1 (cleanN a1 y)) (twoN op a0 (cleanN a0 x) a1 (cleanN a1 y)) 24; have F4 := yW.trans (hb4.mono yW.size); have pr4 := P4.1.lt; have hne : ¬ w4.heap.size = p := by omega)
        | (go_at_call 10; refine (told_any _).mono ?_; rintro e w5 ⟨rfl, hb5⟩; have P5 := (P4.keep ((Below.refl _ _).alloc (Nat.le_refl _) _)).keep hb5; have R5 := R4.keep hb5; have F5 := (F4.alloc F4.size _).trans (hb5.mono (Nat.le_trans F4.size (by simp))); have p50 := P5.1.1; have p51 := P5.1.2; have p52 := P5.1.lt; have r50 := R5.1.1; have r51 := R5.1.2; have r52 := R5.1.lt)
        | (go_at_call 15; refine (has_any _ _ _ _).mono ?_; rintro e w' ⟨rfl, o, rfl⟩)
        | (go_at_call_of 21 (Value.int .i64 3); refine (one_any _ _ _ _).mono ?_; rintro e w7 ⟨rfl, hb7⟩; have P7 : Bz w7 p a0 (cleanN a0 x) := (by first | exact P5.keep hb7 | exact (P5.keep ((Below.refl _ _).alloc (Nat.le_refl _) _)).keep hb7); have R7 : Bz w7 w4.heap.size _ _ := (by first | exact R5.keep hb7 | exact (R5.keep ((Below.refl _ _).alloc (Nat.le_refl _) _)).keep hb7); have F7 : Below w.heap.size w w7 := (by first | exact F5.trans (hb7.mono F5.size) | exact (F5.alloc F5.size _).trans (hb7.mono (Nat.le_trans F5.size (by simp)))); have p70 := P7.1.1; have p71 := P7.1.2; have r70 := R7.1.1; have r71 := R7.1.2; have r72 := R7.2.1; have r73 := R7.2.2)
        | (go_at_call_of 21 (Value.int .i64 2); refine (one_any _ _ _ _).mono ?_; rintro e w8 ⟨rfl, hb8⟩; have P8 := (Bx.set pr4 P7.1 (.bool (oneI 3 a0)) (.int .i64 (oneN 3 a0 (cleanN a0 x)))).keep hb8; have R8 := (Bx.wrote (i := oneI 3 a0) (n := oneN 3 a0 (cleanN a0 x)) R7.1.1 R7.1.2).keep hb8; have S8 := Bx.new w8 (oneI 2 a0) (oneN 2 a0 (cleanN a0 x)) 24; have F8 := ((F7.setCell (p := ⟨w4.heap.size, 0, none⟩) F4.size _).setCell (p := ⟨w4.heap.size, 1, none⟩) F4.size _).trans (hb8.mono (by simpa using F7.size)); have p80 := P8.1; have p81 := P8.2; have p82 := P8.lt; have r80 := R8.1; have r81 := R8.2; have r82 := R8.lt)
        | (go_at_call 25; refine (br_any _ _ _ _).mono ?_; rintro e w9 ⟨rfl, hb9⟩; have R9 := (R8.keep ((Below.refl _ _).alloc (Nat.le_refl _) _)).keep hb9; have S9 := S8.keep hb9; have F9 := (F8.alloc F8.size _).trans (hb9.mono (Nat.le_trans F8.size (by simp))); have r90 := R9.1; have r91 := R9.2; have r92 := R9.lt; have s90 := S9.1; have s91 := S9.2; have s92 := S9.lt))
      all_goals (go_ret; exact ⟨rfl, by repeat (first | exact F9 | (refine Below.alloc ?_ (by have := F9.size; simp; omega) _))⟩)
end Go.Proofs.Ytmpmefnaepnfnaa
