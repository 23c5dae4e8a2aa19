import Derived.Test.YthiacdbjlkpfgaaDoorG05
import Derived.Test.YthiacdbjlkpfgaaDoorG06
import Derived.Test.YthiacdbjlkpfgaaDoorG04
namespace Go.Proofs.YthiacdbjlkpfgaaDoor
open Go.RowKit
theorem Wi.mem {s t : Int × Int} {x : Int} (h : Wi s t) (hx : In s x) : In t x := by
  unfold Wi In at *
  omega
theorem in_l {s : Int × Int} (h : Sp s) : In s s.1 := by unfold Sp In at *; omega
theorem in_h {s : Int × Int} (h : Sp s) : In s s.2 := by unfold Sp In at *; omega
theorem sub_all (s : Int × Int) (h0 : -9223372036854775808 ≤ s.1) (h1 : s.2 ≤ 9223372036854775807) : Wi s allP := ⟨h0, h1⟩
theorem mn_one (p q r s : Int) : mn p q r s = p ∨ mn p q r s = q ∨ mn p q r s = r ∨ mn p q r s = s := by unfold mn; omega
theorem mx_one (p q r s : Int) : mx p q r s = p ∨ mx p q r s = q ∨ mx p q r s = r ∨ mx p q r s = s := by unfold mx; omega
/-- four numbers of a Span: so is what lies from the least to the greatest -/
theorem hull_sub (p q r s : Int) (t : Int × Int) (h1 : In t p) (h2 : In t q) (h3 : In t r) (h4 : In t s) : Wi (mn p q r s, mx p q r s) t := by
  unfold Wi In mn mx at *
  dsimp only
  omega
theorem rises6 (a b a' b' : Int × Int) (ha : Sp a) (hb : Sp b) (h1 : Wi a a') (h2 : Wi b b') : Wi (prodsP a b) (prodsP a' b') := by
  unfold prodsP
  split
  · rename_i h
    simp only [Bool.and_eq_true, fit_iff] at h
    split
    · exact hull_sub _ _ _ _ _ (mul_hull a' b' _ _ (h1.mem (in_l ha)) (h2.mem (in_l hb))) (mul_hull a' b' _ _ (h1.mem (in_l ha)) (h2.mem (in_h hb))) (mul_hull a' b' _ _ (h1.mem (in_h ha)) (h2.mem (in_l hb))) (mul_hull a' b' _ _ (h1.mem (in_h ha)) (h2.mem (in_h hb)))
    · refine sub_all _ ?_ ?_
      · unfold mn; dsimp only; omega
      · unfold mx; dsimp only; omega
  · rename_i h
    rw [if_neg]
    · exact ⟨Int.le_refl _, Int.le_refl _⟩
    · intro h'
      apply h
      simp only [Bool.and_eq_true, fit_iff] at h' ⊢
      have e1 := mul_hull a' b' _ _ (h1.mem (in_l ha)) (h2.mem (in_l hb))
      have e2 := mul_hull a' b' _ _ (h1.mem (in_l ha)) (h2.mem (in_h hb))
      have e3 := mul_hull a' b' _ _ (h1.mem (in_h ha)) (h2.mem (in_l hb))
      have e4 := mul_hull a' b' _ _ (h1.mem (in_h ha)) (h2.mem (in_h hb))
      unfold mn mx at e1 e2 e3 e4
      omega
theorem below_in (b : Int × Int) (h : b.1 ≤ -1) (hb : b.1 ≤ b.2) : In b (belowP b).1 ∧ In b (belowP b).2 ∧ (belowP b).1 < 0 ∧ (belowP b).2 < 0 := by
  unfold belowP In; dsimp only; omega
theorem above_in (b : Int × Int) (h : 1 ≤ b.2) (hb : b.1 ≤ b.2) : In b (aboveP b).1 ∧ In b (aboveP b).2 ∧ 0 < (aboveP b).1 ∧ 0 < (aboveP b).2 := by
  unfold aboveP In; dsimp only; omega
/-- the quotient of two numbers is told, without going round -/
theorem quots_in (a b : Int × Int) (x y : Int) (ha : Sp a) (hx : In a x) (hy : In b y) (h0 : y ≠ 0) (hf : -9223372036854775808 ≤ x.tdiv y ∧ x.tdiv y ≤ 9223372036854775807) : In (quotsP a b).1 (x.tdiv y) := by
  have e := (sound7 a b x y ha hx hy h0).2
  rw [wrap_fit _ hf.1 hf.2] at e
  exact e
theorem quo_sub (a b p t : Int × Int) (h : ∀ x y, In a x → In b y → In t (x.tdiv y)) (ha : Sp a) (h1 : In b p.1) (h2 : In b p.2) : Wi (quoP a p) t :=
  hull_sub _ _ _ _ _ (h _ _ (in_l ha) h1) (h _ _ (in_l ha) h2) (h _ _ (in_h ha) h1) (h _ _ (in_h ha) h2)
theorem rises7 (a b a' b' : Int × Int) (ha : Sp a) (hb : Sp b) (ha' : Sp a') (h1 : Wi a a') (h2 : Wi b b') (hok : (quotsP a b).2 = true) : (quotsP a' b').2 = true ∧ Wi (quotsP a b).1 (quotsP a' b').1 := by
  by_cases hm : a.1 = -9223372036854775808 ∧ b.1 ≤ -1 ∧ -1 ≤ b.2
  · have hm' : a'.1 = -9223372036854775808 ∧ b'.1 ≤ -1 ∧ -1 ≤ b'.2 := by unfold Wi Sp at *; omega
    unfold quotsP
    rw [if_pos hm, if_pos hm']
    exact ⟨rfl, Int.le_refl _, Int.le_refl _⟩
  have hq : ∀ x y, In a x → In b y → y ≠ 0 → In (quotsP a' b').1 (x.tdiv y) := by
    intro x y hx hy h0
    exact quots_in a' b' x y ha' (h1.mem hx) (h2.mem hy) h0 (tdiv_fit x y (by unfold i64 Sp In at *; omega) h0 (by unfold In Sp at *; omega))
  have hs : ∀ p : Int × Int, In b p.1 → In b p.2 → p.1 ≠ 0 → p.2 ≠ 0 → Wi (quoP a p) (quotsP a' b').1 := fun p q1 q2 q3 q4 =>
    hull_sub _ _ _ _ _ (hq _ _ (in_l ha) q1 q3) (hq _ _ (in_l ha) q2 q4) (hq _ _ (in_h ha) q1 q3) (hq _ _ (in_h ha) q2 q4)
  have hok' : (quotsP a' b').2 = true := by
    unfold quotsP
    split
    · rfl
    split
    · rfl
    split
    · rfl
    split
    · rfl
    · exfalso
      unfold quotsP at hok
      unfold Wi Sp at *
      rw [if_neg hm, if_neg (by omega), if_neg (by omega), if_neg (by omega)] at hok
      exact Bool.noConfusion hok
  refine ⟨hok', ?_⟩
  generalize quotsP a' b' = t at *
  have hbr : b.1 ≤ b.2 := hb.2.1
  unfold quotsP at hok ⊢
  rw [if_neg hm] at hok ⊢
  split
  · rename_i h
    have i1 := below_in b h.1 hbr
    have i2 := above_in b h.2 hbr
    have s1 := hs (belowP b) i1.1 i1.2.1 (by omega) (by omega)
    have s2 := hs (aboveP b) i2.1 i2.2.1 (by omega) (by omega)
    unfold Wi at s1 s2 ⊢
    dsimp only
    omega
  split
  · rename_i h
    have i1 := below_in b h hbr
    exact hs (belowP b) i1.1 i1.2.1 (by omega) (by omega)
  split
  · rename_i h
    have i2 := above_in b h hbr
    exact hs (aboveP b) i2.1 i2.2.1 (by omega) (by omega)
  · rename_i k1 k2 k3
    rw [if_neg k1, if_neg k2, if_neg k3] at hok
    exact Bool.noConfusion hok
theorem rises10 (a b a' b' : Int × Int) (ha : Sp a) (hb : Sp b) (ha' : Sp a') (hb' : Sp b') (h1 : Wi a a') (h2 : Wi b b') : Wi (xorsP a b) (xorsP a' b') := by
  unfold Sp Wi at *
  have k1 := ones_mono (max a.2 b.2) (max a'.2 b'.2) (by omega)
  have k2 := ones_mono (max (-1 - a.1) (-1 - b.1)) (max (-1 - a'.1) (-1 - b'.1)) (by omega)
  have k3 := ones_mono (max (-1 - a.1) b.2) (max (-1 - a'.1) b'.2) (by omega)
  have k4 := ones_mono (max a.2 (-1 - b.1)) (max a'.2 (-1 - b'.1)) (by omega)
  have b1 := ones_bd (max a.2 b.2) (by omega)
  have b2 := ones_bd (max (-1 - a.1) (-1 - b.1)) (by omega)
  have b3 := ones_bd (max (-1 - a.1) b.2) (by omega)
  have b4 := ones_bd (max a.2 (-1 - b.1)) (by omega)
  unfold xorsP allP
  generalize onesI (max a.2 b.2) = p1 at *
  generalize onesI (max (-1 - a.1) (-1 - b.1)) = p2 at *
  generalize onesI (max (-1 - a.1) b.2) = p3 at *
  generalize onesI (max a.2 (-1 - b.1)) = p4 at *
  generalize onesI (max a'.2 b'.2) = q1 at *
  generalize onesI (max (-1 - a'.1) (-1 - b'.1)) = q2 at *
  generalize onesI (max (-1 - a'.1) b'.2) = q3 at *
  generalize onesI (max a'.2 (-1 - b'.1)) = q4 at *
  by_cases c1 : 0 ≤ a.1 ∧ 0 ≤ b.1
  · rw [if_pos c1]
    repeat' (first | (dsimp only; omega) | split)
  rw [if_neg c1]
  by_cases c2 : a.2 < 0 ∧ b.2 < 0
  · rw [if_pos c2]
    repeat' (first | (dsimp only; omega) | split)
  rw [if_neg c2]
  by_cases c3 : a.2 < 0 ∧ 0 ≤ b.1
  · rw [if_pos c3]
    repeat' (first | (dsimp only; omega) | split)
  rw [if_neg c3]
  by_cases c4 : 0 ≤ a.1 ∧ b.2 < 0
  · rw [if_pos c4]
    repeat' (first | (dsimp only; omega) | split)
  rw [if_neg c4]
  repeat' (first | (dsimp only; omega) | split)
/-- of more numbers as many come about, or more -/
theorem two_rises (op : Int) (a b a' b' : Int × Int) (ha : Sp a) (hb : Sp b) (ha' : Sp a') (hb' : Sp b') (h1 : Wi a a') (h2 : Wi b b') (hok : (twoP op a b).2 = true) : (twoP op a' b').2 = true ∧ Wi (twoP op a b).1 (twoP op a' b').1 := by
  unfold twoP at *
  by_cases h4 : op = 4
  · simp only [if_pos h4]
    refine ⟨trivial, ?_⟩
    unfold sumsP Wi Sp allP at *
    simp only [Bool.and_eq_true, fit_iff]
    split <;> split <;> (dsimp only; omega)
  simp only [if_neg h4] at hok ⊢
  by_cases h5 : op = 5
  · simp only [if_pos h5]
    refine ⟨trivial, ?_⟩
    unfold diffsP Wi Sp allP at *
    simp only [Bool.and_eq_true, fit_iff]
    split <;> split <;> (dsimp only; omega)
  simp only [if_neg h5] at hok ⊢
  by_cases h6 : op = 6
  · simp only [if_pos h6]; exact ⟨trivial, rises6 a b a' b' ha hb h1 h2⟩
  simp only [if_neg h6] at hok ⊢
  by_cases h7 : op = 7
  · simp only [if_pos h7] at hok ⊢; exact rises7 a b a' b' ha hb ha' h1 h2 hok
  simp only [if_neg h7] at hok ⊢
  by_cases h8 : op = 8
  · simp only [if_pos h8] at hok ⊢
    unfold remsP at *
    unfold Wi Sp farP at *
    split at hok
    · exact Bool.noConfusion hok
    · rename_i k
      rw [if_neg (by omega), if_neg k]
      refine ⟨rfl, ?_⟩
      dsimp only
      omega
  simp only [if_neg h8] at hok ⊢
  by_cases h9 : op = 9
  · simp only [if_pos h9]
    refine ⟨trivial, ?_⟩
    unfold andsP Wi Sp at *
    repeat' (first | (dsimp only; omega) | split)
  simp only [if_neg h9] at hok ⊢
  by_cases h10 : op = 10
  · simp only [if_pos h10]; exact ⟨trivial, rises10 a b a' b' ha hb ha' hb' h1 h2⟩
  simp only [if_neg h10] at hok ⊢
  by_cases h11 : op = 11
  · simp only [if_pos h11]
    refine ⟨trivial, ?_⟩
    unfold lessP Wi Sp at *
    repeat' (first | (dsimp only; omega) | split)
  simp only [if_neg h11] at hok ⊢
  by_cases h12 : op = 12
  · simp only [if_pos h12]
    refine ⟨trivial, ?_⟩
    unfold sameP Wi Sp at *
    repeat' (first | (dsimp only; omega) | split)
  simp only [if_neg h12] at hok ⊢
  exact Bool.noConfusion hok
end Go.Proofs.YthiacdbjlkpfgaaDoor
namespace Go.Proofs.YthiacdbjlkpfgaaDoor
open Go.RowKit
set_option maxRecDepth 100000 in
set_option maxHeartbeats 16000000 in
theorem has_V (x : V) (n : Int) (w : World) : Calls Tryd.prog 9 #[.agg #[.int .i64 (up x.s), .bool x.k, .int .i64 x.n, .int .i64 x.lo, .int .i64 x.hi, .int .i64 (up x.p)], .int .i64 n] w fun e w' => e = .returned (.bool (hasV x n)) ∧ Below w.heap.size w w' := by
  have c1 := fun w => bel0 (shas_any (up x.s) n w)
  have c2 := fun w => bel1 (khas_any x.k x.n n w)
  have c3 := fun w => bel1 (nhas_any x.lo x.hi n w)
  have c4 := fun w => bel0 (phas_any (up x.p) n w)
  rw [low_up] at c1 c4
  have HR : Hid (hasV x n = (hasS x.s n && (hasK x.k x.n n && (hasR x.lo x.hi n && hasP x.p n)))) := rfl
  generalize hasV x n = r at *
  generalize hasS x.s n = t1 at *
  generalize hasK x.k x.n n = t2 at *
  generalize hasR x.lo x.hi n = t3 at *
  generalize hasP x.p n = t4 at *
  cases t1
  · have x0 : Br (w.alloc (.cells #[.int .i64 (up x.s), .bool x.k, .int .i64 x.n, .int .i64 x.lo, .int .i64 x.hi, .int .i64 (up x.p)] 33)) (w.heap.size) (up x.s) x.k x.n x.lo x.hi (up x.p) := (Br.new w (up x.s) x.k x.n x.lo x.hi (up x.p) 33)
    have xb : Below w.heap.size w (w.alloc (.cells #[.int .i64 (up x.s), .bool x.k, .int .i64 x.n, .int .i64 x.lo, .int .i64 x.hi, .int .i64 (up x.p)] 33)) := (by repeat (first | exact Below.refl _ _ | (refine Below.drew ?_) | (refine below_drewN ?_ _) | (refine Below.setCell ?_ (by first | omega | (simp; done) | (simp; omega)) _) | (refine Below.alloc ?_ (by first | omega | (simp; done) | (simp; omega)) _) | (refine Below.trans ?_ (Below.mono (by assumption) (by first | omega | (simp; done) | (simp; omega))))))
    go_enter Tryd.func9, Tryd.ntmps9
    go_upto_region 1 with fail
    go_name_world W hW
    rw [hW] at x0 xb
    clear hW
    obtain ⟨N, hN⟩ : ∃ N, N = w.heap.size := ⟨_, rfl⟩
    rw [← hN] at x0 xb ⊢
    have HN : Hid (N = w.heap.size) := hN
    clear hN
    have HA := hide (And.intro x0 xb)
    clear x0 xb
    have a0 := HA.out.1.c0
    have a1 := HA.out.1.c1
    have a2 := HA.out.1.c2
    have a3 := HA.out.1.c3
    have a4 := HA.out.1.c4
    have a5 := HA.out.1.c5
    go_wp2_with (first | (go_at_call 25; refine (c1 _).mono ?_; rintro e w1 ⟨rfl, hb1⟩; have HB := hide (And.intro (HA.out.1.keep hb1) (HA.out.2.trans (hb1.mono (Nat.le_of_lt HA.out.1.lt)))); clear HA hb1 a0 a1 a2 a3 a4 a5; have HA := HB; clear HB; have a0 := HA.out.1.c0; have a1 := HA.out.1.c1; have a2 := HA.out.1.c2; have a3 := HA.out.1.c3; have a4 := HA.out.1.c4; have a5 := HA.out.1.c5) | (go_at_call 26; refine (c2 _).mono ?_; rintro e w1 ⟨rfl, hb1⟩; have HB := hide (And.intro (HA.out.1.keep hb1) (HA.out.2.trans (hb1.mono (Nat.le_of_lt HA.out.1.lt)))); clear HA hb1 a0 a1 a2 a3 a4 a5; have HA := HB; clear HB; have a0 := HA.out.1.c0; have a1 := HA.out.1.c1; have a2 := HA.out.1.c2; have a3 := HA.out.1.c3; have a4 := HA.out.1.c4; have a5 := HA.out.1.c5) | (go_at_call 27; refine (c3 _).mono ?_; rintro e w1 ⟨rfl, hb1⟩; have HB := hide (And.intro (HA.out.1.keep hb1) (HA.out.2.trans (hb1.mono (Nat.le_of_lt HA.out.1.lt)))); clear HA hb1 a0 a1 a2 a3 a4 a5; have HA := HB; clear HB; have a0 := HA.out.1.c0; have a1 := HA.out.1.c1; have a2 := HA.out.1.c2; have a3 := HA.out.1.c3; have a4 := HA.out.1.c4; have a5 := HA.out.1.c5) | (go_at_call 28; refine (c4 _).mono ?_; rintro e w1 ⟨rfl, hb1⟩; have HB := hide (And.intro (HA.out.1.keep hb1) (HA.out.2.trans (hb1.mono (Nat.le_of_lt HA.out.1.lt)))); clear HA hb1 a0 a1 a2 a3 a4 a5; have HA := HB; clear HB; have a0 := HA.out.1.c0; have a1 := HA.out.1.c1; have a2 := HA.out.1.c2; have a3 := HA.out.1.c3; have a4 := HA.out.1.c4; have a5 := HA.out.1.c5))
    clear c1 c2 c3 c4
    go_ret
    exact ⟨by rw [HR.out]; rfl, by rw [← HN.out]; exact HA.out.2⟩
  · cases t2
    · have x0 : Br (w.alloc (.cells #[.int .i64 (up x.s), .bool x.k, .int .i64 x.n, .int .i64 x.lo, .int .i64 x.hi, .int .i64 (up x.p)] 33)) (w.heap.size) (up x.s) x.k x.n x.lo x.hi (up x.p) := (Br.new w (up x.s) x.k x.n x.lo x.hi (up x.p) 33)
      have xb : Below w.heap.size w (w.alloc (.cells #[.int .i64 (up x.s), .bool x.k, .int .i64 x.n, .int .i64 x.lo, .int .i64 x.hi, .int .i64 (up x.p)] 33)) := (by repeat (first | exact Below.refl _ _ | (refine Below.drew ?_) | (refine below_drewN ?_ _) | (refine Below.setCell ?_ (by first | omega | (simp; done) | (simp; omega)) _) | (refine Below.alloc ?_ (by first | omega | (simp; done) | (simp; omega)) _) | (refine Below.trans ?_ (Below.mono (by assumption) (by first | omega | (simp; done) | (simp; omega))))))
      go_enter Tryd.func9, Tryd.ntmps9
      go_upto_region 1 with fail
      go_name_world W hW
      rw [hW] at x0 xb
      clear hW
      obtain ⟨N, hN⟩ : ∃ N, N = w.heap.size := ⟨_, rfl⟩
      rw [← hN] at x0 xb ⊢
      have HN : Hid (N = w.heap.size) := hN
      clear hN
      have HA := hide (And.intro x0 xb)
      clear x0 xb
      have a0 := HA.out.1.c0
      have a1 := HA.out.1.c1
      have a2 := HA.out.1.c2
      have a3 := HA.out.1.c3
      have a4 := HA.out.1.c4
      have a5 := HA.out.1.c5
      go_wp2_with (first | (go_at_call 25; refine (c1 _).mono ?_; rintro e w1 ⟨rfl, hb1⟩; have HB := hide (And.intro (HA.out.1.keep hb1) (HA.out.2.trans (hb1.mono (Nat.le_of_lt HA.out.1.lt)))); clear HA hb1 a0 a1 a2 a3 a4 a5; have HA := HB; clear HB; have a0 := HA.out.1.c0; have a1 := HA.out.1.c1; have a2 := HA.out.1.c2; have a3 := HA.out.1.c3; have a4 := HA.out.1.c4; have a5 := HA.out.1.c5) | (go_at_call 26; refine (c2 _).mono ?_; rintro e w1 ⟨rfl, hb1⟩; have HB := hide (And.intro (HA.out.1.keep hb1) (HA.out.2.trans (hb1.mono (Nat.le_of_lt HA.out.1.lt)))); clear HA hb1 a0 a1 a2 a3 a4 a5; have HA := HB; clear HB; have a0 := HA.out.1.c0; have a1 := HA.out.1.c1; have a2 := HA.out.1.c2; have a3 := HA.out.1.c3; have a4 := HA.out.1.c4; have a5 := HA.out.1.c5) | (go_at_call 27; refine (c3 _).mono ?_; rintro e w1 ⟨rfl, hb1⟩; have HB := hide (And.intro (HA.out.1.keep hb1) (HA.out.2.trans (hb1.mono (Nat.le_of_lt HA.out.1.lt)))); clear HA hb1 a0 a1 a2 a3 a4 a5; have HA := HB; clear HB; have a0 := HA.out.1.c0; have a1 := HA.out.1.c1; have a2 := HA.out.1.c2; have a3 := HA.out.1.c3; have a4 := HA.out.1.c4; have a5 := HA.out.1.c5) | (go_at_call 28; refine (c4 _).mono ?_; rintro e w1 ⟨rfl, hb1⟩; have HB := hide (And.intro (HA.out.1.keep hb1) (HA.out.2.trans (hb1.mono (Nat.le_of_lt HA.out.1.lt)))); clear HA hb1 a0 a1 a2 a3 a4 a5; have HA := HB; clear HB; have a0 := HA.out.1.c0; have a1 := HA.out.1.c1; have a2 := HA.out.1.c2; have a3 := HA.out.1.c3; have a4 := HA.out.1.c4; have a5 := HA.out.1.c5))
      clear c1 c2 c3 c4
      go_ret
      exact ⟨by rw [HR.out]; rfl, by rw [← HN.out]; exact HA.out.2⟩
    · cases t3
      · have x0 : Br (w.alloc (.cells #[.int .i64 (up x.s), .bool x.k, .int .i64 x.n, .int .i64 x.lo, .int .i64 x.hi, .int .i64 (up x.p)] 33)) (w.heap.size) (up x.s) x.k x.n x.lo x.hi (up x.p) := (Br.new w (up x.s) x.k x.n x.lo x.hi (up x.p) 33)
        have xb : Below w.heap.size w (w.alloc (.cells #[.int .i64 (up x.s), .bool x.k, .int .i64 x.n, .int .i64 x.lo, .int .i64 x.hi, .int .i64 (up x.p)] 33)) := (by repeat (first | exact Below.refl _ _ | (refine Below.drew ?_) | (refine below_drewN ?_ _) | (refine Below.setCell ?_ (by first | omega | (simp; done) | (simp; omega)) _) | (refine Below.alloc ?_ (by first | omega | (simp; done) | (simp; omega)) _) | (refine Below.trans ?_ (Below.mono (by assumption) (by first | omega | (simp; done) | (simp; omega))))))
        go_enter Tryd.func9, Tryd.ntmps9
        go_upto_region 1 with fail
        go_name_world W hW
        rw [hW] at x0 xb
        clear hW
        obtain ⟨N, hN⟩ : ∃ N, N = w.heap.size := ⟨_, rfl⟩
        rw [← hN] at x0 xb ⊢
        have HN : Hid (N = w.heap.size) := hN
        clear hN
        have HA := hide (And.intro x0 xb)
        clear x0 xb
        have a0 := HA.out.1.c0
        have a1 := HA.out.1.c1
        have a2 := HA.out.1.c2
        have a3 := HA.out.1.c3
        have a4 := HA.out.1.c4
        have a5 := HA.out.1.c5
        go_wp2_with (first | (go_at_call 25; refine (c1 _).mono ?_; rintro e w1 ⟨rfl, hb1⟩; have HB := hide (And.intro (HA.out.1.keep hb1) (HA.out.2.trans (hb1.mono (Nat.le_of_lt HA.out.1.lt)))); clear HA hb1 a0 a1 a2 a3 a4 a5; have HA := HB; clear HB; have a0 := HA.out.1.c0; have a1 := HA.out.1.c1; have a2 := HA.out.1.c2; have a3 := HA.out.1.c3; have a4 := HA.out.1.c4; have a5 := HA.out.1.c5) | (go_at_call 26; refine (c2 _).mono ?_; rintro e w1 ⟨rfl, hb1⟩; have HB := hide (And.intro (HA.out.1.keep hb1) (HA.out.2.trans (hb1.mono (Nat.le_of_lt HA.out.1.lt)))); clear HA hb1 a0 a1 a2 a3 a4 a5; have HA := HB; clear HB; have a0 := HA.out.1.c0; have a1 := HA.out.1.c1; have a2 := HA.out.1.c2; have a3 := HA.out.1.c3; have a4 := HA.out.1.c4; have a5 := HA.out.1.c5) | (go_at_call 27; refine (c3 _).mono ?_; rintro e w1 ⟨rfl, hb1⟩; have HB := hide (And.intro (HA.out.1.keep hb1) (HA.out.2.trans (hb1.mono (Nat.le_of_lt HA.out.1.lt)))); clear HA hb1 a0 a1 a2 a3 a4 a5; have HA := HB; clear HB; have a0 := HA.out.1.c0; have a1 := HA.out.1.c1; have a2 := HA.out.1.c2; have a3 := HA.out.1.c3; have a4 := HA.out.1.c4; have a5 := HA.out.1.c5) | (go_at_call 28; refine (c4 _).mono ?_; rintro e w1 ⟨rfl, hb1⟩; have HB := hide (And.intro (HA.out.1.keep hb1) (HA.out.2.trans (hb1.mono (Nat.le_of_lt HA.out.1.lt)))); clear HA hb1 a0 a1 a2 a3 a4 a5; have HA := HB; clear HB; have a0 := HA.out.1.c0; have a1 := HA.out.1.c1; have a2 := HA.out.1.c2; have a3 := HA.out.1.c3; have a4 := HA.out.1.c4; have a5 := HA.out.1.c5))
        clear c1 c2 c3 c4
        go_ret
        exact ⟨by rw [HR.out]; rfl, by rw [← HN.out]; exact HA.out.2⟩
      · have x0 : Br (w.alloc (.cells #[.int .i64 (up x.s), .bool x.k, .int .i64 x.n, .int .i64 x.lo, .int .i64 x.hi, .int .i64 (up x.p)] 33)) (w.heap.size) (up x.s) x.k x.n x.lo x.hi (up x.p) := (Br.new w (up x.s) x.k x.n x.lo x.hi (up x.p) 33)
        have xb : Below w.heap.size w (w.alloc (.cells #[.int .i64 (up x.s), .bool x.k, .int .i64 x.n, .int .i64 x.lo, .int .i64 x.hi, .int .i64 (up x.p)] 33)) := (by repeat (first | exact Below.refl _ _ | (refine Below.drew ?_) | (refine below_drewN ?_ _) | (refine Below.setCell ?_ (by first | omega | (simp; done) | (simp; omega)) _) | (refine Below.alloc ?_ (by first | omega | (simp; done) | (simp; omega)) _) | (refine Below.trans ?_ (Below.mono (by assumption) (by first | omega | (simp; done) | (simp; omega))))))
        go_enter Tryd.func9, Tryd.ntmps9
        go_upto_region 1 with fail
        go_name_world W hW
        rw [hW] at x0 xb
        clear hW
        obtain ⟨N, hN⟩ : ∃ N, N = w.heap.size := ⟨_, rfl⟩
        rw [← hN] at x0 xb ⊢
        have HN : Hid (N = w.heap.size) := hN
        clear hN
        have HA := hide (And.intro x0 xb)
        clear x0 xb
        have a0 := HA.out.1.c0
        have a1 := HA.out.1.c1
        have a2 := HA.out.1.c2
        have a3 := HA.out.1.c3
        have a4 := HA.out.1.c4
        have a5 := HA.out.1.c5
        go_wp2_with (first | (go_at_call 25; refine (c1 _).mono ?_; rintro e w1 ⟨rfl, hb1⟩; have HB := hide (And.intro (HA.out.1.keep hb1) (HA.out.2.trans (hb1.mono (Nat.le_of_lt HA.out.1.lt)))); clear HA hb1 a0 a1 a2 a3 a4 a5; have HA := HB; clear HB; have a0 := HA.out.1.c0; have a1 := HA.out.1.c1; have a2 := HA.out.1.c2; have a3 := HA.out.1.c3; have a4 := HA.out.1.c4; have a5 := HA.out.1.c5) | (go_at_call 26; refine (c2 _).mono ?_; rintro e w1 ⟨rfl, hb1⟩; have HB := hide (And.intro (HA.out.1.keep hb1) (HA.out.2.trans (hb1.mono (Nat.le_of_lt HA.out.1.lt)))); clear HA hb1 a0 a1 a2 a3 a4 a5; have HA := HB; clear HB; have a0 := HA.out.1.c0; have a1 := HA.out.1.c1; have a2 := HA.out.1.c2; have a3 := HA.out.1.c3; have a4 := HA.out.1.c4; have a5 := HA.out.1.c5) | (go_at_call 27; refine (c3 _).mono ?_; rintro e w1 ⟨rfl, hb1⟩; have HB := hide (And.intro (HA.out.1.keep hb1) (HA.out.2.trans (hb1.mono (Nat.le_of_lt HA.out.1.lt)))); clear HA hb1 a0 a1 a2 a3 a4 a5; have HA := HB; clear HB; have a0 := HA.out.1.c0; have a1 := HA.out.1.c1; have a2 := HA.out.1.c2; have a3 := HA.out.1.c3; have a4 := HA.out.1.c4; have a5 := HA.out.1.c5) | (go_at_call 28; refine (c4 _).mono ?_; rintro e w1 ⟨rfl, hb1⟩; have HB := hide (And.intro (HA.out.1.keep hb1) (HA.out.2.trans (hb1.mono (Nat.le_of_lt HA.out.1.lt)))); clear HA hb1 a0 a1 a2 a3 a4 a5; have HA := HB; clear HB; have a0 := HA.out.1.c0; have a1 := HA.out.1.c1; have a2 := HA.out.1.c2; have a3 := HA.out.1.c3; have a4 := HA.out.1.c4; have a5 := HA.out.1.c5))
        clear c1 c2 c3 c4
        go_ret
        exact ⟨by rw [HR.out]; rfl, by rw [← HN.out]; exact HA.out.2⟩
end Go.Proofs.YthiacdbjlkpfgaaDoor
namespace Go.Proofs.YthiacdbjlkpfgaaDoor
open Go.RowKit
/-- the signs of opposites -/
def oppS (x : BitVec 3) : BitVec 3 := (x &&& 2) ||| (if bt x 2 then 1 else 0) ||| (if bt x 0 then 5 else 0)
theorem and4 (a : Int) : bits .and .i64 a 4 = if bt (low a) 2 then 4 else 0 := by
  rw [and_up _ _ (by omega) (by omega)]
  generalize low a = x
  revert x; decide
theorem and1 (a : Int) : bits .and .i64 a 1 = if bt (low a) 0 then 1 else 0 := by
  rw [and_up _ _ (by omega) (by omega)]
  generalize low a = x
  revert x; decide
theorem and2 (a : Int) : bits .and .i64 a 2 = up (low a &&& 2) := by rw [and_up _ _ (by omega) (by omega)]; rfl
theorem or_c (x : BitVec 3) (c : Int) (h0 : 0 ≤ c) (h1 : c < 8) : bits .or .i64 (up x) c = up (x ||| low c) := by
  have h : c = up (low c) := up_low c h0 h1
  rw [h, or_up, low_up]
theorem sopp_any (a : Int) (w : World) : Calls Tryd.prog 76 #[.int .i64 a] w fun e w' => e = .returned (.int .i64 (up (oppS (low a)))) ∧ w' = w := by
  have h4 := and4 a
  have h1 := and1 a
  have h2 := and2 a
  by_cases x4 : bt (low a) 2 = true
  · rw [if_pos x4] at h4
    by_cases x1 : bt (low a) 0 = true
    · rw [if_pos x1] at h1
      go_enter Tryd.func76, Tryd.ntmps76
      go_wp2
      go_ret
      exact ⟨ret_int (by rw [or_c _ 1 (by omega) (by omega), or_c _ 5 (by omega) (by omega)]; simp [oppS, x4, x1, show low 1 = (1 : BitVec 3) from rfl, show low 5 = (5 : BitVec 3) from rfl]), rfl⟩
    · rw [if_neg x1] at h1
      go_enter Tryd.func76, Tryd.ntmps76
      go_wp2
      go_ret
      exact ⟨ret_int (by rw [or_c _ 1 (by omega) (by omega)]; simp [oppS, x4, x1, show low 1 = (1 : BitVec 3) from rfl]), rfl⟩
  · rw [if_neg x4] at h4
    by_cases x1 : bt (low a) 0 = true
    · rw [if_pos x1] at h1
      go_enter Tryd.func76, Tryd.ntmps76
      go_wp2
      go_ret
      exact ⟨ret_int (by rw [or_c _ 5 (by omega) (by omega)]; simp [oppS, x4, x1, show low 5 = (5 : BitVec 3) from rfl]), rfl⟩
    · rw [if_neg x1] at h1
      go_enter Tryd.func76, Tryd.ntmps76
      go_wp2
      go_ret
      exact ⟨ret_int (by simp [oppS, x4, x1]), rfl⟩
def oneS (op : Int) (x : BitVec 3) : BitVec 3 := if op = 2 then x else if op = 3 then oppS x else 0
theorem sone_any (op a : Int) (w : World) : Calls Tryd.prog 31 #[.int .i64 op, .int .i64 a] w fun e w' => e = .returned (.int .i64 (up (oneS op (low a)))) ∧ w' = w := by
  by_cases h2 : op = 2
  · subst h2
    go_enter Tryd.func31, Tryd.ntmps31
    go_wp2
    go_ret
    exact ⟨ret_int (by rw [and_up _ _ (by omega) (by omega), show low 7 = 7#3 from rfl, and7]; rfl), rfl⟩
  by_cases h3 : op = 3
  · subst h3
    go_enter Tryd.func31, Tryd.ntmps31
    go_wp2_with (go_at_call 76; refine (sopp_any _ _).mono ?_; rintro e w' ⟨rfl, rfl⟩)
    go_ret
    exact ⟨rfl, rfl⟩
  go_enter Tryd.func31, Tryd.ntmps31
  go_wp2
  go_ret
  exact ⟨ret_int (by simp [oneS, *]; rfl), rfl⟩
def branchS (x : BitVec 3) (yes : Bool) : BitVec 3 := if yes then x &&& 5 else x &&& 2
theorem sbranch_any (a : Int) (yes : Bool) (w : World) : Calls Tryd.prog 35 #[.int .i64 a, .bool yes] w fun e w' => e = .returned (.int .i64 (up (branchS (low a) yes))) ∧ w' = w := by
  cases yes <;>
  · go_enter Tryd.func35, Tryd.ntmps35
    go_wp2
    go_ret
    exact ⟨ret_int (by rw [and_up _ _ (by omega) (by omega)]; rfl), rfl⟩
end Go.Proofs.YthiacdbjlkpfgaaDoor
namespace Go.Proofs.YthiacdbjlkpfgaaDoor
open Go.RowKit
def branchQ (x : BitVec 3) (yes : Bool) : BitVec 3 := if yes then x &&& 3 else x &&& 1
theorem pbranch_any (a : Int) (yes : Bool) (w : World) : Calls Tryd.prog 36 #[.int .i64 a, .bool yes] w fun e w' => e = .returned (.int .i64 (up (branchQ (low a) yes))) ∧ w' = w := by
  cases yes <;>
  · go_enter Tryd.func36, Tryd.ntmps36
    go_wp2
    go_ret
    exact ⟨ret_int (by rw [and_up _ _ (by omega) (by omega)]; rfl), rfl⟩
def oneQ (op : Int) (x : BitVec 3) : BitVec 3 := if op = 2 ∨ op = 3 then x &&& 3 else 0
theorem pone_any (op a : Int) (w : World) : Calls Tryd.prog 32 #[.int .i64 op, .int .i64 a] w fun e w' => e = .returned (.int .i64 (up (oneQ op (low a)))) ∧ w' = w := by
  by_cases h2 : op = 2
  · subst h2; go_enter Tryd.func32, Tryd.ntmps32; go_wp2; go_ret; exact ⟨ret_int (by rw [and3]; rfl), rfl⟩
  by_cases h3 : op = 3
  · subst h3; go_enter Tryd.func32, Tryd.ntmps32; go_wp2; go_ret; exact ⟨ret_int (by rw [and3]; rfl), rfl⟩
  have b2 : (op == 2) = false := by simp [h2]
  have b3 : (op == 3) = false := by simp [h3]
  go_enter Tryd.func32, Tryd.ntmps32; go_wp2; go_ret; exact ⟨ret_int (by simp [oneQ, h2, h3]; rfl), rfl⟩
end Go.Proofs.YthiacdbjlkpfgaaDoor
