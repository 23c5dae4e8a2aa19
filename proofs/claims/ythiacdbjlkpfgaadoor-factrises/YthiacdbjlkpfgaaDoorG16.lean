import Derived.Test.YthiacdbjlkpfgaaDoorG12
import Derived.Test.YthiacdbjlkpfgaaDoorG06
import Derived.Test.YthiacdbjlkpfgaaDoorG13
import Derived.Test.YthiacdbjlkpfgaaDoorG14
import Derived.Test.YthiacdbjlkpfgaaDoorG15
import Derived.Test.YthiacdbjlkpfgaaDoorG02
namespace Go.Proofs.YthiacdbjlkpfgaaDoor
open Go.RowKit
theorem ks_one3 (a : Bool) (x : Int) : hasK (oneI 3 a) (oneN 3 a (cleanN a x)) (wrap64 (-x)) = true := by cases a <;> simp [hasK, oneI, oneN, cleanN]
theorem ks_one2 (a : Bool) (x : Int) : hasK (oneI 2 a) (oneN 2 a (cleanN a x)) x = true := by cases a <;> simp [hasK, oneI, oneN, cleanN]
theorem ks_brok (a : Bool) (x : Int) : brOk a (cleanN a x) (x != 0) = true := by
  by_cases h : x = 0
  · subst h; cases a <;> rfl
  · cases a <;> simp [brOk, cleanN, h]
theorem ks_br (a : Bool) (x : Int) : hasK (brI a (cleanN a x) (x != 0)) (brN a (cleanN a x) (x != 0)) x = true := by
  by_cases h : x = 0
  · subst h; cases a <;> rfl
  · cases a <;> simp [hasK, brI, brN, cleanN, h]
theorem ks_two (op x y : Int) (a b : Bool) (h : (arith op x y).2 = true) : twoOk op b (cleanN b y) = true ∧ hasK (twoI op a b (cleanN b y)) (twoN op a (cleanN a x) b (cleanN b y)) (arith op x y).1 = true := by
  have h1 : 4 ≤ op ∧ op ≤ 12 := by
    apply Classical.byContradiction
    intro hn
    have : arith op x y = (0, false) := by
      unfold arith
      rw [if_neg (by omega), if_neg (by omega), if_neg (by omega), if_neg (by omega), if_neg (by omega), if_neg (by omega), if_neg (by omega), if_neg (by omega), if_neg (by omega)]
    rw [this] at h
    cases h
  have h2 : (op = 7 ∨ op = 8) → y ≠ 0 := fun ho hy => by
    rw [hy] at h
    rcases ho with rfl | rfl <;> simp [arith] at h
  have h3 : twoOk op b (cleanN b y) = true := by
    cases b
    · simp [twoOk, h1]
    · by_cases ho : op = 7 ∨ op = 8
      · have := h2 ho
        simp [twoOk, cleanN, h1, this]
      · have n7 : op ≠ 7 := fun e => ho (.inl e)
        have n8 : op ≠ 8 := fun e => ho (.inr e)
        simp [twoOk, h1, n7, n8]
  refine ⟨h3, ?_⟩
  cases a
  · simp [hasK, twoI]
  · cases b
    · simp [hasK, twoI]
    · have h4 : twoOk op true y = true := by simpa [cleanN] using h3
      simp [hasK, twoI, twoN, cleanN, h4]
theorem hasR_in {s : Int × Int} {n : Int} (h : In s n) : hasR s.1 s.2 n = true := by
  unfold hasR
  rw [Bool.and_eq_true, decide_eq_true_iff, decide_eq_true_iff]
  exact h
theorem one_neg (a : Int × Int) (x : Int) (ha : Sp a) (hx : In a x) : (oneP 3 a).2 = true ∧ In (oneP 3 a).1 (wrap64 (-x)) := by
  unfold oneP
  rw [if_neg (by omega), if_pos rfl]
  unfold Sp at ha
  unfold In at hx
  split
  · refine ⟨rfl, ?_⟩
    rw [wrap_fit _ (by omega) (by omega)]
    unfold In
    dsimp only
    omega
  split
  · refine ⟨rfl, ?_⟩
    obtain rfl : x = -9223372036854775808 := by omega
    unfold In
    dsimp only
    have e : wrap64 (- -9223372036854775808) = -9223372036854775808 := by unfold wrap64; omega
    rw [e]
    omega
  · exact ⟨rfl, all_in _ (wrap_bd _).1 (wrap_bd _).2⟩
theorem one_move (a : Int × Int) (x : Int) (hx : In a x) : (oneP 2 a).2 = true ∧ In (oneP 2 a).1 x := by
  unfold oneP
  rw [if_pos rfl]
  exact ⟨rfl, hx⟩
theorem branch_in (a : Int × Int) (x : Int) (hx : In a x) : (branchP a (x != 0)).2 = true ∧ In (branchP a (x != 0)).1 x := by
  by_cases h : x = 0
  · subst h
    unfold In at hx
    show (brF a).2 = true ∧ In (brF a).1 0
    unfold brF
    rw [if_pos hx]
    exact ⟨rfl, Int.le_refl _, Int.le_refl _⟩
  · have e : (x != 0) = true := by rw [bne_iff_ne]; exact h
    rw [e]
    show (brT a).2 = true ∧ In (brT a).1 x
    unfold In at hx ⊢
    unfold brT
    split
    · omega
    split
    · refine ⟨rfl, ?_⟩; dsimp only; omega
    split
    · refine ⟨rfl, ?_⟩; dsimp only; omega
    · exact ⟨rfl, hx⟩
theorem wi_refl (a : Int × Int) : Wi a a := ⟨Int.le_refl _, Int.le_refl _⟩
theorem within_of {a b : Int × Int} (h : Wi a b) : withinR a.1 a.2 b.1 b.2 = true := by
  unfold withinR
  rw [Bool.and_eq_true, decide_eq_true_iff, decide_eq_true_iff]
  exact h
theorem one_rises (op : Int) (a b : Int × Int) (ha : Sp a) (hb : Sp b) (h : Wi a b) (hok : (oneP op a).2 = true) : (oneP op b).2 = true ∧ Wi (oneP op a).1 (oneP op b).1 := by
  unfold oneP at *
  by_cases q2 : op = 2
  · simp only [if_pos q2]; exact ⟨trivial, h⟩
  simp only [if_neg q2] at hok ⊢
  by_cases q3 : op = 3
  · simp only [if_pos q3]
    unfold Wi Sp allP at *
    by_cases c1 : a.1 ≠ -9223372036854775808
    · rw [if_pos c1]
      by_cases c2 : b.1 ≠ -9223372036854775808
      · rw [if_pos c2]; refine ⟨rfl, ?_⟩; dsimp only; omega
      · rw [if_neg c2]
        by_cases c3 : b.2 = -9223372036854775808
        · omega
        · rw [if_neg c3]; refine ⟨rfl, ?_⟩; dsimp only; omega
    · rw [if_neg c1, if_neg (by omega)]
      by_cases c3 : a.2 = -9223372036854775808
      · rw [if_pos c3]
        by_cases c4 : b.2 = -9223372036854775808
        · rw [if_pos c4]; refine ⟨rfl, ?_⟩; dsimp only; omega
        · rw [if_neg c4]; refine ⟨rfl, ?_⟩; dsimp only; omega
      · rw [if_neg c3, if_neg (by omega)]; refine ⟨rfl, ?_⟩; dsimp only; omega
  simp only [if_neg q3] at hok
  exact Bool.noConfusion hok
theorem branch_rises (yes : Bool) (a b : Int × Int) (ha : Sp a) (h : Wi a b) (hok : (branchP a yes).2 = true) : (branchP b yes).2 = true ∧ Wi (branchP a yes).1 (branchP b yes).1 := by
  cases yes
  · have hok : (brF a).2 = true := hok
    show (brF b).2 = true ∧ Wi (brF a).1 (brF b).1
    unfold brF at *
    unfold Wi Sp at *
    by_cases c : a.1 ≤ 0 ∧ 0 ≤ a.2
    · rw [if_pos c, if_pos (by omega)]
      exact ⟨rfl, Int.le_refl _, Int.le_refl _⟩
    · rw [if_neg c] at hok
      exact Bool.noConfusion hok
  · have hok : (brT a).2 = true := hok
    show (brT b).2 = true ∧ Wi (brT a).1 (brT b).1
    unfold brT at *
    unfold Wi Sp at *
    by_cases c0 : a.1 = 0 ∧ a.2 = 0
    · rw [if_pos c0] at hok
      exact Bool.noConfusion hok
    rw [if_neg c0, if_neg (by omega)]
    repeat' (first | (refine ⟨rfl, ?_⟩; dsimp only; omega) | split)
end Go.Proofs.YthiacdbjlkpfgaaDoor
namespace Go.Proofs.YthiacdbjlkpfgaaDoor
open Go.RowKit
theorem hasV_iff (v : V) (n : Int) : hasV v n = true ↔ hasS v.s n = true ∧ hasK v.k v.n n = true ∧ (v.lo ≤ n ∧ n ≤ v.hi) ∧ hasP v.p n = true := by
  unfold hasV hasR
  simp only [Bool.and_eq_true, decide_eq_true_iff]
theorem sg_cases (n : Int) : sg n = 1 ∨ sg n = 2 ∨ sg n = 4 := by
  unfold sg; split
  · exact Or.inl rfl
  · split
    · exact Or.inr (Or.inl rfl)
    · exact Or.inr (Or.inr rfl)
theorem pr_cases (n : Int) : pr n = 1 ∨ pr n = 2 := by
  unfold pr; split
  · exact Or.inl rfl
  · exact Or.inr rfl
theorem or_bit1 : ∀ A : BitVec 3, ((A &&& 1) != 0) = true → A ||| 1 = A := by decide
theorem or_bit2 : ∀ A : BitVec 3, ((A &&& 2) != 0) = true → A ||| 2 = A := by decide
theorem or_bit4 : ∀ A : BitVec 3, ((A &&& 4) != 0) = true → A ||| 4 = A := by decide
theorem hasS_or {A : BitVec 3} {x : Int} (h : hasS A x = true) : A ||| sg x = A := by
  unfold hasS at h
  rcases sg_cases x with e | e | e <;> rw [e] at h ⊢
  · exact or_bit1 A h
  · exact or_bit2 A h
  · exact or_bit4 A h
theorem hasP_or {A : BitVec 3} {x : Int} (h : hasP A x = true) : A ||| pr x = A := by
  unfold hasP at h
  rcases pr_cases x with e | e <;> rw [e] at h ⊢
  · exact or_bit1 A h
  · exact or_bit2 A h
theorem hasS_ne {A : BitVec 3} {x : Int} (h : hasS A x = true) : A ≠ 0 := by
  intro e; subst e; unfold hasS at h; simp at h
theorem hasP_ne {A : BitVec 3} {x : Int} (h : hasP A x = true) : A ≠ 0 := by
  intro e; subst e; unfold hasP at h; simp at h
theorem kn_clean {v : V} (ho : v.k = false → v.n = 0) {x : Int} (h : hasK v.k v.n x = true) : v.n = cleanN v.k x := by
  unfold hasK at h; unfold cleanN
  cases hk : v.k
  · simpa using ho hk
  · rw [hk] at h; simpa using h
theorem or_ne : ∀ x y : BitVec 3, x ≠ 0 → x ||| y ≠ 0 := by decide
theorem or_low3 : ∀ x y : BitVec 3, x &&& 3 = x → y &&& 3 = y → (x ||| y) &&& 3 = x ||| y := by decide
theorem join_ok (x c : V) (hx : x.ok) (hc : c.ok) : (joinV x c).ok := by
  refine ⟨?_, ?_, ?_, ?_, ?_, ?_⟩
  · exact or_ne _ _ hx.s
  · exact or_ne _ _ hx.p
  · exact or_low3 _ _ hx.p3 hc.p3
  · intro h
    dsimp only [joinV] at h ⊢
    unfold joinI at h; unfold joinN
    rw [if_neg]
    rintro ⟨a, b, d⟩
    rw [a, b, d] at h; simp at h
  · have h1 := hx.sp; have h2 := hc.sp; unfold Sp at *; dsimp only [joinV] at *; omega
  · dsimp only [joinV]; unfold joinN
    split
    · exact hx.i
    · unfold i64; omega
theorem of_ok (n : Int) (h : i64 n) : (ofV n).ok := by
  refine ⟨?_, ?_, ?_, ?_, ?_, h⟩
  · show sg n ≠ 0
    rcases sg_cases n with e | e | e <;> rw [e] <;> decide
  · show pr n ≠ 0
    rcases pr_cases n with e | e <;> rw [e] <;> decide
  · show pr n &&& 3 = pr n
    rcases pr_cases n with e | e <;> rw [e] <;> decide
  · intro h; cases h
  · exact ⟨h.1, Int.le_refl _, h.2⟩
theorem about_has (v : V) (n : Int) : hasV (joinV v (ofV n)) n = true := by
  rw [hasV_iff]
  refine ⟨has_self v.s n, ?_, ?_, phas_more (pr n) v.p n ?_⟩
  · show hasK (joinI v.k v.n true n) (joinN v.k v.n true n) n = true
    unfold hasK joinI joinN
    cases v.k <;> by_cases h : v.n = n <;> simp [h]
  · dsimp only [joinV, ofV]; omega
  · unfold hasP; rcases pr_cases n with e | e <;> rw [e] <;> decide
theorem some_true (x : V) (is : Bool) (h1 : is = true) (h2 : x.s ≠ 0) (h3 : x.p ≠ 0) : someV x is = (x, true) := if_pos ⟨h1, h2, h3⟩
theorem some_of (x : V) (is : Bool) (h : (someV x is).2 = true) : is = true ∧ x.s ≠ 0 ∧ x.p ≠ 0 ∧ someV x is = (x, true) := by
  unfold someV at *
  by_cases c : is = true ∧ x.s ≠ 0 ∧ x.p ≠ 0
  · rw [if_pos c]; exact ⟨c.1, c.2.1, c.2.2, rfl⟩
  · rw [if_neg c] at h; cases h
theorem some_has (x : V) (is : Bool) (n : Int) (h1 : is = true) (h : hasV x n = true) : (someV x is).2 = true ∧ hasV (someV x is).1 n = true := by
  have t := (hasV_iff x n).1 h
  rw [some_true x is h1 (hasS_ne t.1) (hasP_ne t.2.2.2)]
  exact ⟨rfl, h⟩
theorem two_soundV (op x y : Int) (a b : V) (ha : a.ok) (hb : b.ok) (hx : i64 x) (hy : i64 y) (h1 : hasV a x = true) (h2 : hasV b y = true) (h : (arith op x y).2 = true) : (twoV op a b).2 = true ∧ hasV (twoV op a b).1 (arith op x y).1 = true := by
  rw [hasV_iff] at h1 h2
  have t := two_sound op (a.lo, a.hi) (b.lo, b.hi) x y ha.sp hb.sp h1.2.2.1 h2.2.2.1 h
  have s := snd_any op x y a.s b.s hx hy h
  rw [hasS_or h1.1, hasS_or h2.1] at s
  have p := psnd_any op x y a.p b.p h
  rw [hasP_or h1.2.2.2, hasP_or h2.2.2.2] at p
  have k := ks_two op x y a.k b.k h
  rw [← kn_clean ha.n h1.2.1, ← kn_clean hb.n h2.2.1] at k
  refine some_has _ _ _ ?_ ?_
  · rw [k.1, t.1]; rfl
  · rw [hasV_iff]; exact ⟨s, k.2, t.2, p⟩
theorem neg_soundV (x : Int) (a : V) (ha : a.ok) (hx : i64 x) (h1 : hasV a x = true) : (oneV 3 a).2 = true ∧ hasV (oneV 3 a).1 (wrap64 (-x)) = true := by
  rw [hasV_iff] at h1
  have t := one_neg (a.lo, a.hi) x ha.sp h1.2.2.1
  have s := one3_has a.s x hx
  rw [hasS_or h1.1] at s
  have p := pone3_has a.p x
  rw [hasP_or h1.2.2.2] at p
  have k := ks_one3 a.k x
  rw [← kn_clean ha.n h1.2.1] at k
  refine some_has _ _ _ ?_ ?_
  · rw [t.1]; rfl
  · rw [hasV_iff]; exact ⟨s, k, t.2, p⟩
theorem move_soundV (x : Int) (a : V) (ha : a.ok) (h1 : hasV a x = true) : (oneV 2 a).2 = true ∧ hasV (oneV 2 a).1 x = true := by
  rw [hasV_iff] at h1
  have t := one_move (a.lo, a.hi) x h1.2.2.1
  have s := one2_has a.s x
  rw [hasS_or h1.1] at s
  have p := pone2_has a.p x
  rw [hasP_or h1.2.2.2] at p
  have k := ks_one2 a.k x
  rw [← kn_clean ha.n h1.2.1] at k
  refine some_has _ _ _ ?_ ?_
  · rw [t.1]; rfl
  · rw [hasV_iff]; exact ⟨s, k, t.2, p⟩
theorem branch_soundV (x : Int) (a : V) (ha : a.ok) (h1 : hasV a x = true) : (branchV a (x != 0)).2 = true ∧ hasV (branchV a (x != 0)).1 x = true := by
  rw [hasV_iff] at h1
  have t := branch_in (a.lo, a.hi) x h1.2.2.1
  have s := br_has a.s x
  rw [hasS_or h1.1] at s
  have p := pbr_has a.p x
  rw [hasP_or h1.2.2.2] at p
  have k := ks_br a.k x
  have k1 := ks_brok a.k x
  rw [← kn_clean ha.n h1.2.1] at k k1
  refine some_has _ _ _ ?_ ?_
  · rw [k1, t.1]; rfl
  · rw [hasV_iff]; exact ⟨s, k, t.2, p⟩
theorem ws_ne : ∀ x y : BitVec 3, withinS x y = true → x ≠ 0 → y ≠ 0 := by decide
theorem ws_eq : ∀ x y : BitVec 3, withinS x y = true → x ||| y = y := by decide
theorem ws_of : ∀ x y z : BitVec 3, z = x ||| y → withinS x z = true := by decide
theorem ws_tr : ∀ x y z : BitVec 3, withinS x y = true → withinS y z = true → withinS x z = true := by decide
theorem some_risesV (x y : V) (i j : Bool) (h : (someV x i).2 = true) (hij : i = true → j = true ∧ withinV x y = true) : (someV y j).2 = true ∧ withinV (someV x i).1 (someV y j).1 = true := by
  obtain ⟨a, b, c, d⟩ := some_of x i h
  have t := hij a
  have u := (withinV_iff x y).1 t.2
  rw [d, some_true y j t.1 (ws_ne _ _ u.1 b) (ws_ne _ _ u.2.2.2 c)]
  exact ⟨rfl, t.2⟩
theorem wk_e {a : Bool} {n : Int} {b : Bool} {m : Int} (h : withinK a n b m = true) : b = true → a = true ∧ n = m := by
  intro e; subst e; unfold withinK at h; simpa using h
theorem wk_self (a : Bool) (n : Int) : withinK a n a n = true := by unfold withinK; cases a <;> simp
theorem wk_no (a : Bool) (n m : Int) : withinK a n false m = true := by unfold withinK; simp
theorem kn_rises (op : Int) (a b a' b' : Bool) (an bn an' bn' : Int) (h1 : withinK a an a' an' = true) (h2 : withinK b bn b' bn' = true) (h : twoOk op b bn = true) : twoOk op b' bn' = true ∧ withinK (twoI op a b bn) (twoN op a an b bn) (twoI op a' b' bn') (twoN op a' an' b' bn') = true := by
  have e1 := wk_e h1
  have e2 := wk_e h2
  have k : twoOk op b' bn' = true := by
    cases b'
    · unfold twoOk at *
      simp only [Bool.and_eq_true, decide_eq_true_eq] at h
      simp [h.1.1, h.1.2]
    · obtain ⟨e, f⟩ := e2 rfl
      subst e f; exact h
  refine ⟨k, ?_⟩
  cases a'
  · have : twoI op false b' bn' = false := by unfold twoI; simp
    rw [this]; exact wk_no _ _ _
  · cases b'
    · have : twoI op true false bn' = false := by unfold twoI; simp
      rw [this]; exact wk_no _ _ _
    · obtain ⟨e, f⟩ := e2 rfl
      obtain ⟨e', f'⟩ := e1 rfl
      subst e f e' f'; exact wk_self _ _
theorem wi_of {a b : V} (h : b.lo ≤ a.lo ∧ a.hi ≤ b.hi) : Wi (a.lo, a.hi) (b.lo, b.hi) := h
theorem two_risesV (op : Int) (a b a' b' : V) (ha : a.ok) (hb : b.ok) (ha' : a'.ok) (hb' : b'.ok) (h1 : withinV a a' = true) (h2 : withinV b b' = true) (h : (twoV op a b).2 = true) : (twoV op a' b').2 = true ∧ withinV (twoV op a b).1 (twoV op a' b').1 = true := by
  rw [withinV_iff] at h1 h2
  refine some_risesV _ _ _ _ h fun hi => ?_
  rw [Bool.and_eq_true] at hi
  have k := kn_rises op a.k b.k a'.k b'.k a.n b.n a'.n b'.n h1.2.1 h2.2.1 hi.1
  have t := two_rises op (a.lo, a.hi) (b.lo, b.hi) (a'.lo, a'.hi) (b'.lo, b'.hi) ha.sp hb.sp ha'.sp hb'.sp h1.2.2.1 h2.2.2.1 hi.2
  have s1 : withinS (twoS op a.s b.s) (twoS op a'.s b.s) = true := ws_of _ (twoS op a'.s b.s) _ (by rw [← two_join1, ws_eq _ _ h1.1])
  have s2 : withinS (twoS op a'.s b.s) (twoS op a'.s b'.s) = true := ws_of _ (twoS op a'.s b'.s) _ (by rw [← two_join2, ws_eq _ _ h2.1])
  have p1 : withinS (twoQ op a.p b.p) (twoQ op a'.p b.p) = true := ws_of _ (twoQ op a'.p b.p) _ (by rw [← twop_join1, ws_eq _ _ h1.2.2.2])
  have p2 : withinS (twoQ op a'.p b.p) (twoQ op a'.p b'.p) = true := ws_of _ (twoQ op a'.p b'.p) _ (by rw [← twop_join2, ws_eq _ _ h2.2.2.2])
  refine ⟨by rw [k.1, t.1]; rfl, ?_⟩
  rw [withinV_iff]
  exact ⟨ws_tr _ _ _ s1 s2, k.2, t.2, ws_tr _ _ _ p1 p2⟩
theorem oneQ_join (op : Int) (x y : BitVec 3) : oneQ op (x ||| y) = oneQ op x ||| oneQ op y := by
  have h : ∀ x y : BitVec 3, (x ||| y) &&& 3 = (x &&& 3) ||| (y &&& 3) := by decide
  unfold oneQ; split
  · exact h x y
  · rfl
theorem one_risesV (op : Int) (a a' : V) (ha : a.ok) (ha' : a'.ok) (h1 : withinV a a' = true) (h : (oneV op a).2 = true) : (oneV op a').2 = true ∧ withinV (oneV op a).1 (oneV op a').1 = true := by
  rw [withinV_iff] at h1
  refine some_risesV _ _ _ _ h fun hi => ?_
  rw [Bool.and_eq_true] at hi
  have t := Go.Proofs.YthiacdbjlkpfgaaDoor.one_rises op (a.lo, a.hi) (a'.lo, a'.hi) ha.sp ha'.sp h1.2.2.1 hi.2
  have s1 : withinS (oneS op a.s) (oneS op a'.s) = true := ws_of _ (oneS op a'.s) _ (by rw [← one_join, ws_eq _ _ h1.1])
  have p1 : withinS (oneQ op a.p) (oneQ op a'.p) = true := ws_of _ (oneQ op a'.p) _ (by rw [← oneQ_join, ws_eq _ _ h1.2.2.2])
  have k : withinK (oneI op a.k) (oneN op a.k a.n) (oneI op a'.k) (oneN op a'.k a'.n) = true := by
    have e1 := wk_e h1.2.1
    cases hk : a'.k
    · have : oneI op false = false := by unfold oneI; simp
      rw [this]; exact wk_no _ _ _
    · obtain ⟨e, f⟩ := e1 hk
      rw [e, f]; exact wk_self _ _
  refine ⟨by rw [hi.1, t.1]; rfl, ?_⟩
  rw [withinV_iff]
  exact ⟨s1, k, t.2, p1⟩
theorem brQ_join : ∀ (x y : BitVec 3) (b : Bool), branchQ (x ||| y) b = branchQ x b ||| branchQ y b := by decide
theorem kbr_rises (a a' : Bool) (an an' : Int) (yes : Bool) (h1 : withinK a an a' an' = true) (h : brOk a an yes = true) : brOk a' an' yes = true ∧ withinK (brI a an yes) (brN a an yes) (brI a' an' yes) (brN a' an' yes) = true := by
  have e1 := wk_e h1
  cases a'
  · refine ⟨by unfold brOk; cases yes <;> simp, ?_⟩
    cases yes
    · have : brI a an false = true := by unfold brI brOk at *; simpa using h
      rw [this]
      unfold withinK brI brN; simp
    · have : brI false an' true = false := by unfold brI; simp
      rw [this]; exact wk_no _ _ _
  · obtain ⟨e, f⟩ := e1 rfl
    subst e f
    exact ⟨h, wk_self _ _⟩
theorem branch_risesV (yes : Bool) (a a' : V) (ha : a.ok) (h1 : withinV a a' = true) (h : (branchV a yes).2 = true) : (branchV a' yes).2 = true ∧ withinV (branchV a yes).1 (branchV a' yes).1 = true := by
  rw [withinV_iff] at h1
  refine some_risesV _ _ _ _ h fun hi => ?_
  rw [Bool.and_eq_true] at hi
  have k := kbr_rises a.k a'.k a.n a'.n yes h1.2.1 hi.1
  have t := branch_rises yes (a.lo, a.hi) (a'.lo, a'.hi) ha.sp h1.2.2.1 hi.2
  have s1 : withinS (branchS a.s yes) (branchS a'.s yes) = true := ws_of _ (branchS a'.s yes) _ (by rw [← br_join, ws_eq _ _ h1.1])
  have p1 : withinS (branchQ a.p yes) (branchQ a'.p yes) = true := ws_of _ (branchQ a'.p yes) _ (by rw [← brQ_join, ws_eq _ _ h1.2.2.2])
  refine ⟨by rw [k.1, t.1]; rfl, ?_⟩
  rw [withinV_iff]
  exact ⟨s1, k.2, t.2, p1⟩
end Go.Proofs.YthiacdbjlkpfgaaDoor
namespace Go.Proofs.YthiacdbjlkpfgaaDoor
open Go.RowKit
theorem and7up (s : Int) : bits .and .i64 s 7 = up (low s) := by rw [and_up _ _ (by omega) (by omega), show low 7 = 7#3 from rfl, and7]
set_option maxRecDepth 100000 in
set_option maxHeartbeats 16000000 in
theorem fix_V (s : Int) (k : Bool) (n lo hi p : Int) (w : World) : Calls Tryd.prog 13 #[.agg #[.int .i64 s, .bool k, .int .i64 n, .int .i64 lo, .int .i64 hi, .int .i64 p]] w fun e w' => e = .returned (.agg #[.int .i64 (up (fixV s k n lo hi p).s), .bool (fixV s k n lo hi p).k, .int .i64 (fixV s k n lo hi p).n, .int .i64 (fixV s k n lo hi p).lo, .int .i64 (fixV s k n lo hi p).hi, .int .i64 (up (fixV s k n lo hi p).p)]) ∧ Below w.heap.size w w' := by
  have e1 := and7up s
  have e2 := and3 p
  have HR : Hid (fixV s k n lo hi p = ⟨if low s = 0 then 7 else low s, k, cleanN k n, min lo hi, max lo hi, if lp p = 0 then 3 else lp p⟩) := rfl
  generalize fixV s k n lo hi p = r at *
  by_cases hs : low s = 0
  · by_cases hp : lp p = 0
    · have d1 : (up (low s) == 0) = true := by rw [show (0 : Int) = up 0 from rfl, up_beq, beq_iff_eq]; exact hs
      have d2 : (up (lp p) == 0) = true := by rw [show (0 : Int) = up 0 from rfl, up_beq, beq_iff_eq]; exact hp
      have HQ : Hid (r = ⟨7, k, cleanN k n, min lo hi, max lo hi, 3⟩) := by unfold Hid; rw [HR.out, if_pos hs, if_pos hp]
      clear hs hp HR
      go_enter Tryd.func13, Tryd.ntmps13
      go_upto_region 7 with fail
      go_name_world W hW
      have HA : Hid (Br W w.heap.size 7 k n lo hi 3 ∧ Fz W w.heap.size ∧ Br W (w.heap.size + 1) 0 false 0 0 0 0 ∧ Fz W (w.heap.size + 1) ∧ Below w.heap.size w W) := by
        rw [← hW]
        refine ⟨⟨?_, ?_, ?_, ?_, ?_, ?_⟩, ⟨?_, ?_, ?_, ?_, ?_, ?_⟩, ⟨?_, ?_, ?_, ?_, ?_, ?_⟩, ⟨?_, ?_, ?_, ?_, ?_, ?_⟩, (by repeat (first | exact Below.refl _ _ | (refine Below.drew ?_) | (refine below_drewN ?_ _) | (refine Below.setCell ?_ (by first | omega | (simp; done) | (simp; omega)) _) | (refine Below.alloc ?_ (by first | omega | (simp; done) | (simp; omega)) _) | (refine Below.trans ?_ (Below.mono (by assumption) (by first | omega | (simp; done) | (simp; omega))))))⟩ <;> simp [go_sem]
      clear hW
      obtain ⟨N, hN⟩ : ∃ N, N = w.heap.size := ⟨_, rfl⟩
      rw [← hN] at HA ⊢
      have HN : Hid (N = w.heap.size) := hN
      clear hN
      have a0 := HA.out.1.c0
      have a1 := HA.out.1.c1
      have a2 := HA.out.1.c2
      have a3 := HA.out.1.c3
      have a4 := HA.out.1.c4
      have a5 := HA.out.1.c5
      go_upto_region 8 with (go_at_call 39; refine (kclean_any _ _ _).mono ?_; rintro e wK ⟨rfl, hK⟩; clear a0 a1 a2 a3 a4 a5; have K := And.intro (HA.out.1.keep hK) (And.intro (HA.out.2.1.keep HA.out.1.lt hK) (And.intro (HA.out.2.2.1.keep hK) (And.intro (HA.out.2.2.2.1.keep HA.out.2.2.1.lt hK) (HA.out.2.2.2.2.trans (hK.mono (Nat.le_of_lt HA.out.1.lt)))))); have a0 := K.1.c0; have a1 := K.1.c1; have a2 := K.1.c2; have a3 := K.1.c3; have a4 := K.1.c4; have a5 := K.1.c5; have f0 := K.2.1.f0; have f1 := K.2.1.f1; have f2 := K.2.1.f2; have f3 := K.2.1.f3; have f4 := K.2.1.f4; have f5 := K.2.1.f5)
      go_name_world W2 hW2
      have HB : Hid (Br W2 N 7 k (cleanN k n) lo hi 3 ∧ Fz W2 N ∧ Br W2 (N + 1) 0 false 0 0 0 0 ∧ Fz W2 (N + 1) ∧ Below N w W2) := by
        rw [← hW2]
        exact ⟨K.1.known _ _, K.2.1.two _ _ _ _, K.2.2.1.two (by omega) _ _ _ _, K.2.2.2.1.two _ _ _ _, two_below K.2.2.2.2 N _ _ (Nat.le_refl _) _ _⟩
      clear hW2 hK K HA a0 a1 a2 a3 a4 a5 f0 f1 f2 f3 f4 f5
      have a0 := HB.out.1.c0
      have a1 := HB.out.1.c1
      have a2 := HB.out.1.c2
      have a3 := HB.out.1.c3
      have a4 := HB.out.1.c4
      have a5 := HB.out.1.c5
      go_upto_region 9 with (go_at_call 40; refine (bel2 (nfix_any _ _ _)).mono ?_; rintro e wK ⟨rfl, hK⟩; clear a0 a1 a2 a3 a4 a5; have K := And.intro (HB.out.1.keep hK) (And.intro (HB.out.2.1.keep HB.out.1.lt hK) (And.intro (HB.out.2.2.1.keep hK) (And.intro (HB.out.2.2.2.1.keep HB.out.2.2.1.lt hK) (HB.out.2.2.2.2.trans (hK.mono (Nat.le_of_lt HB.out.1.lt)))))); have a0 := K.1.c0; have a1 := K.1.c1; have a2 := K.1.c2; have a3 := K.1.c3; have a4 := K.1.c4; have a5 := K.1.c5; have f0 := K.2.1.f0; have f1 := K.2.1.f1; have f2 := K.2.1.f2; have f3 := K.2.1.f3; have f4 := K.2.1.f4; have f5 := K.2.1.f5)
      go_name_world W3 hW3
      have HC : Hid (Br W3 N 7 k (cleanN k n) (min lo hi) (max lo hi) 3 ∧ Br W3 (N + 1) 0 false 0 0 0 0 ∧ Fz W3 (N + 1) ∧ Below N w W3) := by
        rw [← hW3]
        exact ⟨K.1.span _ _, K.2.2.1.two (by omega) _ _ _ _, K.2.2.2.1.two _ _ _ _, two_below K.2.2.2.2 N _ _ (Nat.le_refl _) _ _⟩
      clear hW3 hK K HB a0 a1 a2 a3 a4 a5 f0 f1 f2 f3 f4 f5
      have a0 := HC.out.1.c0
      have a1 := HC.out.1.c1
      have a2 := HC.out.1.c2
      have a3 := HC.out.1.c3
      have a4 := HC.out.1.c4
      have a5 := HC.out.1.c5
      have b0 := HC.out.2.1.c0
      have b1 := HC.out.2.1.c1
      have b2 := HC.out.2.1.c2
      have b3 := HC.out.2.1.c3
      have b4 := HC.out.2.1.c4
      have b5 := HC.out.2.1.c5
      have f0 := HC.out.2.2.1.f0
      have f1 := HC.out.2.2.1.f1
      have f2 := HC.out.2.2.1.f2
      have f3 := HC.out.2.2.1.f3
      have f4 := HC.out.2.2.1.f4
      have f5 := HC.out.2.2.1.f5
      have hB := HC.out.2.2.2
      go_wp2_with fail
      have zw := HC.out.2.1.wrote 7 k (cleanN k n) (min lo hi) (max lo hi) 3
      have hZ := st6_below HC.out.2.2.2 (N + 1) (Nat.le_succ _) (.int .i64 7) (.bool k) (.int .i64 (cleanN k n)) (.int .i64 (min lo hi)) (.int .i64 (max lo hi)) (.int .i64 3)
      clear HC hB e1 e2 d1 d2 a0 a1 a2 a3 a4 a5 b0 b1 b2 b3 b4 b5 f0 f1 f2 f3 f4 f5
      have a0 := zw.c0
      have a1 := zw.c1
      have a2 := zw.c2
      have a3 := zw.c3
      have a4 := zw.c4
      have a5 := zw.c5
      clear zw
      refine bodyPost_ret (by simp [results, Tryd.results13, go_sem, *]; try rfl) rfl ⟨?_, by rw [← HN.out]; exact hZ⟩
      rw [HQ.out] <;> rfl
    · have d1 : (up (low s) == 0) = true := by rw [show (0 : Int) = up 0 from rfl, up_beq, beq_iff_eq]; exact hs
      have d2 : (up (lp p) == 0) = false := by rw [show (0 : Int) = up 0 from rfl, up_beq, beq_eq_false_iff_ne]; exact hp
      have HQ : Hid (r = ⟨7, k, cleanN k n, min lo hi, max lo hi, lp p⟩) := by unfold Hid; rw [HR.out, if_pos hs, if_neg hp]
      clear hs hp HR
      go_enter Tryd.func13, Tryd.ntmps13
      go_upto_region 7 with fail
      go_name_world W hW
      have HA : Hid (Br W w.heap.size 7 k n lo hi (up (lp p)) ∧ Fz W w.heap.size ∧ Br W (w.heap.size + 1) 0 false 0 0 0 0 ∧ Fz W (w.heap.size + 1) ∧ Below w.heap.size w W) := by
        rw [← hW]
        refine ⟨⟨?_, ?_, ?_, ?_, ?_, ?_⟩, ⟨?_, ?_, ?_, ?_, ?_, ?_⟩, ⟨?_, ?_, ?_, ?_, ?_, ?_⟩, ⟨?_, ?_, ?_, ?_, ?_, ?_⟩, (by repeat (first | exact Below.refl _ _ | (refine Below.drew ?_) | (refine below_drewN ?_ _) | (refine Below.setCell ?_ (by first | omega | (simp; done) | (simp; omega)) _) | (refine Below.alloc ?_ (by first | omega | (simp; done) | (simp; omega)) _) | (refine Below.trans ?_ (Below.mono (by assumption) (by first | omega | (simp; done) | (simp; omega))))))⟩ <;> simp [go_sem]
      clear hW
      obtain ⟨N, hN⟩ : ∃ N, N = w.heap.size := ⟨_, rfl⟩
      rw [← hN] at HA ⊢
      have HN : Hid (N = w.heap.size) := hN
      clear hN
      have a0 := HA.out.1.c0
      have a1 := HA.out.1.c1
      have a2 := HA.out.1.c2
      have a3 := HA.out.1.c3
      have a4 := HA.out.1.c4
      have a5 := HA.out.1.c5
      go_upto_region 8 with (go_at_call 39; refine (kclean_any _ _ _).mono ?_; rintro e wK ⟨rfl, hK⟩; clear a0 a1 a2 a3 a4 a5; have K := And.intro (HA.out.1.keep hK) (And.intro (HA.out.2.1.keep HA.out.1.lt hK) (And.intro (HA.out.2.2.1.keep hK) (And.intro (HA.out.2.2.2.1.keep HA.out.2.2.1.lt hK) (HA.out.2.2.2.2.trans (hK.mono (Nat.le_of_lt HA.out.1.lt)))))); have a0 := K.1.c0; have a1 := K.1.c1; have a2 := K.1.c2; have a3 := K.1.c3; have a4 := K.1.c4; have a5 := K.1.c5; have f0 := K.2.1.f0; have f1 := K.2.1.f1; have f2 := K.2.1.f2; have f3 := K.2.1.f3; have f4 := K.2.1.f4; have f5 := K.2.1.f5)
      go_name_world W2 hW2
      have HB : Hid (Br W2 N 7 k (cleanN k n) lo hi (up (lp p)) ∧ Fz W2 N ∧ Br W2 (N + 1) 0 false 0 0 0 0 ∧ Fz W2 (N + 1) ∧ Below N w W2) := by
        rw [← hW2]
        exact ⟨K.1.known _ _, K.2.1.two _ _ _ _, K.2.2.1.two (by omega) _ _ _ _, K.2.2.2.1.two _ _ _ _, two_below K.2.2.2.2 N _ _ (Nat.le_refl _) _ _⟩
      clear hW2 hK K HA a0 a1 a2 a3 a4 a5 f0 f1 f2 f3 f4 f5
      have a0 := HB.out.1.c0
      have a1 := HB.out.1.c1
      have a2 := HB.out.1.c2
      have a3 := HB.out.1.c3
      have a4 := HB.out.1.c4
      have a5 := HB.out.1.c5
      go_upto_region 9 with (go_at_call 40; refine (bel2 (nfix_any _ _ _)).mono ?_; rintro e wK ⟨rfl, hK⟩; clear a0 a1 a2 a3 a4 a5; have K := And.intro (HB.out.1.keep hK) (And.intro (HB.out.2.1.keep HB.out.1.lt hK) (And.intro (HB.out.2.2.1.keep hK) (And.intro (HB.out.2.2.2.1.keep HB.out.2.2.1.lt hK) (HB.out.2.2.2.2.trans (hK.mono (Nat.le_of_lt HB.out.1.lt)))))); have a0 := K.1.c0; have a1 := K.1.c1; have a2 := K.1.c2; have a3 := K.1.c3; have a4 := K.1.c4; have a5 := K.1.c5; have f0 := K.2.1.f0; have f1 := K.2.1.f1; have f2 := K.2.1.f2; have f3 := K.2.1.f3; have f4 := K.2.1.f4; have f5 := K.2.1.f5)
      go_name_world W3 hW3
      have HC : Hid (Br W3 N 7 k (cleanN k n) (min lo hi) (max lo hi) (up (lp p)) ∧ Br W3 (N + 1) 0 false 0 0 0 0 ∧ Fz W3 (N + 1) ∧ Below N w W3) := by
        rw [← hW3]
        exact ⟨K.1.span _ _, K.2.2.1.two (by omega) _ _ _ _, K.2.2.2.1.two _ _ _ _, two_below K.2.2.2.2 N _ _ (Nat.le_refl _) _ _⟩
      clear hW3 hK K HB a0 a1 a2 a3 a4 a5 f0 f1 f2 f3 f4 f5
      have a0 := HC.out.1.c0
      have a1 := HC.out.1.c1
      have a2 := HC.out.1.c2
      have a3 := HC.out.1.c3
      have a4 := HC.out.1.c4
      have a5 := HC.out.1.c5
      have b0 := HC.out.2.1.c0
      have b1 := HC.out.2.1.c1
      have b2 := HC.out.2.1.c2
      have b3 := HC.out.2.1.c3
      have b4 := HC.out.2.1.c4
      have b5 := HC.out.2.1.c5
      have f0 := HC.out.2.2.1.f0
      have f1 := HC.out.2.2.1.f1
      have f2 := HC.out.2.2.1.f2
      have f3 := HC.out.2.2.1.f3
      have f4 := HC.out.2.2.1.f4
      have f5 := HC.out.2.2.1.f5
      have hB := HC.out.2.2.2
      go_wp2_with fail
      have zw := HC.out.2.1.wrote 7 k (cleanN k n) (min lo hi) (max lo hi) (up (lp p))
      have hZ := st6_below HC.out.2.2.2 (N + 1) (Nat.le_succ _) (.int .i64 7) (.bool k) (.int .i64 (cleanN k n)) (.int .i64 (min lo hi)) (.int .i64 (max lo hi)) (.int .i64 (up (lp p)))
      clear HC hB e1 e2 d1 d2 a0 a1 a2 a3 a4 a5 b0 b1 b2 b3 b4 b5 f0 f1 f2 f3 f4 f5
      have a0 := zw.c0
      have a1 := zw.c1
      have a2 := zw.c2
      have a3 := zw.c3
      have a4 := zw.c4
      have a5 := zw.c5
      clear zw
      refine bodyPost_ret (by simp [results, Tryd.results13, go_sem, *]; try rfl) rfl ⟨?_, by rw [← HN.out]; exact hZ⟩
      rw [HQ.out] <;> rfl
  · by_cases hp : lp p = 0
    · have d1 : (up (low s) == 0) = false := by rw [show (0 : Int) = up 0 from rfl, up_beq, beq_eq_false_iff_ne]; exact hs
      have d2 : (up (lp p) == 0) = true := by rw [show (0 : Int) = up 0 from rfl, up_beq, beq_iff_eq]; exact hp
      have HQ : Hid (r = ⟨low s, k, cleanN k n, min lo hi, max lo hi, 3⟩) := by unfold Hid; rw [HR.out, if_neg hs, if_pos hp]
      clear hs hp HR
      go_enter Tryd.func13, Tryd.ntmps13
      go_upto_region 7 with fail
      go_name_world W hW
      have HA : Hid (Br W w.heap.size (up (low s)) k n lo hi 3 ∧ Fz W w.heap.size ∧ Br W (w.heap.size + 1) 0 false 0 0 0 0 ∧ Fz W (w.heap.size + 1) ∧ Below w.heap.size w W) := by
        rw [← hW]
        refine ⟨⟨?_, ?_, ?_, ?_, ?_, ?_⟩, ⟨?_, ?_, ?_, ?_, ?_, ?_⟩, ⟨?_, ?_, ?_, ?_, ?_, ?_⟩, ⟨?_, ?_, ?_, ?_, ?_, ?_⟩, (by repeat (first | exact Below.refl _ _ | (refine Below.drew ?_) | (refine below_drewN ?_ _) | (refine Below.setCell ?_ (by first | omega | (simp; done) | (simp; omega)) _) | (refine Below.alloc ?_ (by first | omega | (simp; done) | (simp; omega)) _) | (refine Below.trans ?_ (Below.mono (by assumption) (by first | omega | (simp; done) | (simp; omega))))))⟩ <;> simp [go_sem]
      clear hW
      obtain ⟨N, hN⟩ : ∃ N, N = w.heap.size := ⟨_, rfl⟩
      rw [← hN] at HA ⊢
      have HN : Hid (N = w.heap.size) := hN
      clear hN
      have a0 := HA.out.1.c0
      have a1 := HA.out.1.c1
      have a2 := HA.out.1.c2
      have a3 := HA.out.1.c3
      have a4 := HA.out.1.c4
      have a5 := HA.out.1.c5
      go_upto_region 8 with (go_at_call 39; refine (kclean_any _ _ _).mono ?_; rintro e wK ⟨rfl, hK⟩; clear a0 a1 a2 a3 a4 a5; have K := And.intro (HA.out.1.keep hK) (And.intro (HA.out.2.1.keep HA.out.1.lt hK) (And.intro (HA.out.2.2.1.keep hK) (And.intro (HA.out.2.2.2.1.keep HA.out.2.2.1.lt hK) (HA.out.2.2.2.2.trans (hK.mono (Nat.le_of_lt HA.out.1.lt)))))); have a0 := K.1.c0; have a1 := K.1.c1; have a2 := K.1.c2; have a3 := K.1.c3; have a4 := K.1.c4; have a5 := K.1.c5; have f0 := K.2.1.f0; have f1 := K.2.1.f1; have f2 := K.2.1.f2; have f3 := K.2.1.f3; have f4 := K.2.1.f4; have f5 := K.2.1.f5)
      go_name_world W2 hW2
      have HB : Hid (Br W2 N (up (low s)) k (cleanN k n) lo hi 3 ∧ Fz W2 N ∧ Br W2 (N + 1) 0 false 0 0 0 0 ∧ Fz W2 (N + 1) ∧ Below N w W2) := by
        rw [← hW2]
        exact ⟨K.1.known _ _, K.2.1.two _ _ _ _, K.2.2.1.two (by omega) _ _ _ _, K.2.2.2.1.two _ _ _ _, two_below K.2.2.2.2 N _ _ (Nat.le_refl _) _ _⟩
      clear hW2 hK K HA a0 a1 a2 a3 a4 a5 f0 f1 f2 f3 f4 f5
      have a0 := HB.out.1.c0
      have a1 := HB.out.1.c1
      have a2 := HB.out.1.c2
      have a3 := HB.out.1.c3
      have a4 := HB.out.1.c4
      have a5 := HB.out.1.c5
      go_upto_region 9 with (go_at_call 40; refine (bel2 (nfix_any _ _ _)).mono ?_; rintro e wK ⟨rfl, hK⟩; clear a0 a1 a2 a3 a4 a5; have K := And.intro (HB.out.1.keep hK) (And.intro (HB.out.2.1.keep HB.out.1.lt hK) (And.intro (HB.out.2.2.1.keep hK) (And.intro (HB.out.2.2.2.1.keep HB.out.2.2.1.lt hK) (HB.out.2.2.2.2.trans (hK.mono (Nat.le_of_lt HB.out.1.lt)))))); have a0 := K.1.c0; have a1 := K.1.c1; have a2 := K.1.c2; have a3 := K.1.c3; have a4 := K.1.c4; have a5 := K.1.c5; have f0 := K.2.1.f0; have f1 := K.2.1.f1; have f2 := K.2.1.f2; have f3 := K.2.1.f3; have f4 := K.2.1.f4; have f5 := K.2.1.f5)
      go_name_world W3 hW3
      have HC : Hid (Br W3 N (up (low s)) k (cleanN k n) (min lo hi) (max lo hi) 3 ∧ Br W3 (N + 1) 0 false 0 0 0 0 ∧ Fz W3 (N + 1) ∧ Below N w W3) := by
        rw [← hW3]
        exact ⟨K.1.span _ _, K.2.2.1.two (by omega) _ _ _ _, K.2.2.2.1.two _ _ _ _, two_below K.2.2.2.2 N _ _ (Nat.le_refl _) _ _⟩
      clear hW3 hK K HB a0 a1 a2 a3 a4 a5 f0 f1 f2 f3 f4 f5
      have a0 := HC.out.1.c0
      have a1 := HC.out.1.c1
      have a2 := HC.out.1.c2
      have a3 := HC.out.1.c3
      have a4 := HC.out.1.c4
      have a5 := HC.out.1.c5
      have b0 := HC.out.2.1.c0
      have b1 := HC.out.2.1.c1
      have b2 := HC.out.2.1.c2
      have b3 := HC.out.2.1.c3
      have b4 := HC.out.2.1.c4
      have b5 := HC.out.2.1.c5
      have f0 := HC.out.2.2.1.f0
      have f1 := HC.out.2.2.1.f1
      have f2 := HC.out.2.2.1.f2
      have f3 := HC.out.2.2.1.f3
      have f4 := HC.out.2.2.1.f4
      have f5 := HC.out.2.2.1.f5
      have hB := HC.out.2.2.2
      go_wp2_with fail
      have zw := HC.out.2.1.wrote (up (low s)) k (cleanN k n) (min lo hi) (max lo hi) 3
      have hZ := st6_below HC.out.2.2.2 (N + 1) (Nat.le_succ _) (.int .i64 (up (low s))) (.bool k) (.int .i64 (cleanN k n)) (.int .i64 (min lo hi)) (.int .i64 (max lo hi)) (.int .i64 3)
      clear HC hB e1 e2 d1 d2 a0 a1 a2 a3 a4 a5 b0 b1 b2 b3 b4 b5 f0 f1 f2 f3 f4 f5
      have a0 := zw.c0
      have a1 := zw.c1
      have a2 := zw.c2
      have a3 := zw.c3
      have a4 := zw.c4
      have a5 := zw.c5
      clear zw
      refine bodyPost_ret (by simp [results, Tryd.results13, go_sem, *]; try rfl) rfl ⟨?_, by rw [← HN.out]; exact hZ⟩
      rw [HQ.out] <;> rfl
    · have d1 : (up (low s) == 0) = false := by rw [show (0 : Int) = up 0 from rfl, up_beq, beq_eq_false_iff_ne]; exact hs
      have d2 : (up (lp p) == 0) = false := by rw [show (0 : Int) = up 0 from rfl, up_beq, beq_eq_false_iff_ne]; exact hp
      have HQ : Hid (r = ⟨low s, k, cleanN k n, min lo hi, max lo hi, lp p⟩) := by unfold Hid; rw [HR.out, if_neg hs, if_neg hp]
      clear hs hp HR
      go_enter Tryd.func13, Tryd.ntmps13
      go_upto_region 7 with fail
      go_name_world W hW
      have HA : Hid (Br W w.heap.size (up (low s)) k n lo hi (up (lp p)) ∧ Fz W w.heap.size ∧ Br W (w.heap.size + 1) 0 false 0 0 0 0 ∧ Fz W (w.heap.size + 1) ∧ Below w.heap.size w W) := by
        rw [← hW]
        refine ⟨⟨?_, ?_, ?_, ?_, ?_, ?_⟩, ⟨?_, ?_, ?_, ?_, ?_, ?_⟩, ⟨?_, ?_, ?_, ?_, ?_, ?_⟩, ⟨?_, ?_, ?_, ?_, ?_, ?_⟩, (by repeat (first | exact Below.refl _ _ | (refine Below.drew ?_) | (refine below_drewN ?_ _) | (refine Below.setCell ?_ (by first | omega | (simp; done) | (simp; omega)) _) | (refine Below.alloc ?_ (by first | omega | (simp; done) | (simp; omega)) _) | (refine Below.trans ?_ (Below.mono (by assumption) (by first | omega | (simp; done) | (simp; omega))))))⟩ <;> simp [go_sem]
      clear hW
      obtain ⟨N, hN⟩ : ∃ N, N = w.heap.size := ⟨_, rfl⟩
      rw [← hN] at HA ⊢
      have HN : Hid (N = w.heap.size) := hN
      clear hN
      have a0 := HA.out.1.c0
      have a1 := HA.out.1.c1
      have a2 := HA.out.1.c2
      have a3 := HA.out.1.c3
      have a4 := HA.out.1.c4
      have a5 := HA.out.1.c5
      go_upto_region 8 with (go_at_call 39; refine (kclean_any _ _ _).mono ?_; rintro e wK ⟨rfl, hK⟩; clear a0 a1 a2 a3 a4 a5; have K := And.intro (HA.out.1.keep hK) (And.intro (HA.out.2.1.keep HA.out.1.lt hK) (And.intro (HA.out.2.2.1.keep hK) (And.intro (HA.out.2.2.2.1.keep HA.out.2.2.1.lt hK) (HA.out.2.2.2.2.trans (hK.mono (Nat.le_of_lt HA.out.1.lt)))))); have a0 := K.1.c0; have a1 := K.1.c1; have a2 := K.1.c2; have a3 := K.1.c3; have a4 := K.1.c4; have a5 := K.1.c5; have f0 := K.2.1.f0; have f1 := K.2.1.f1; have f2 := K.2.1.f2; have f3 := K.2.1.f3; have f4 := K.2.1.f4; have f5 := K.2.1.f5)
      go_name_world W2 hW2
      have HB : Hid (Br W2 N (up (low s)) k (cleanN k n) lo hi (up (lp p)) ∧ Fz W2 N ∧ Br W2 (N + 1) 0 false 0 0 0 0 ∧ Fz W2 (N + 1) ∧ Below N w W2) := by
        rw [← hW2]
        exact ⟨K.1.known _ _, K.2.1.two _ _ _ _, K.2.2.1.two (by omega) _ _ _ _, K.2.2.2.1.two _ _ _ _, two_below K.2.2.2.2 N _ _ (Nat.le_refl _) _ _⟩
      clear hW2 hK K HA a0 a1 a2 a3 a4 a5 f0 f1 f2 f3 f4 f5
      have a0 := HB.out.1.c0
      have a1 := HB.out.1.c1
      have a2 := HB.out.1.c2
      have a3 := HB.out.1.c3
      have a4 := HB.out.1.c4
      have a5 := HB.out.1.c5
      go_upto_region 9 with (go_at_call 40; refine (bel2 (nfix_any _ _ _)).mono ?_; rintro e wK ⟨rfl, hK⟩; clear a0 a1 a2 a3 a4 a5; have K := And.intro (HB.out.1.keep hK) (And.intro (HB.out.2.1.keep HB.out.1.lt hK) (And.intro (HB.out.2.2.1.keep hK) (And.intro (HB.out.2.2.2.1.keep HB.out.2.2.1.lt hK) (HB.out.2.2.2.2.trans (hK.mono (Nat.le_of_lt HB.out.1.lt)))))); have a0 := K.1.c0; have a1 := K.1.c1; have a2 := K.1.c2; have a3 := K.1.c3; have a4 := K.1.c4; have a5 := K.1.c5; have f0 := K.2.1.f0; have f1 := K.2.1.f1; have f2 := K.2.1.f2; have f3 := K.2.1.f3; have f4 := K.2.1.f4; have f5 := K.2.1.f5)
      go_name_world W3 hW3
      have HC : Hid (Br W3 N (up (low s)) k (cleanN k n) (min lo hi) (max lo hi) (up (lp p)) ∧ Br W3 (N + 1) 0 false 0 0 0 0 ∧ Fz W3 (N + 1) ∧ Below N w W3) := by
        rw [← hW3]
        exact ⟨K.1.span _ _, K.2.2.1.two (by omega) _ _ _ _, K.2.2.2.1.two _ _ _ _, two_below K.2.2.2.2 N _ _ (Nat.le_refl _) _ _⟩
      clear hW3 hK K HB a0 a1 a2 a3 a4 a5 f0 f1 f2 f3 f4 f5
      have a0 := HC.out.1.c0
      have a1 := HC.out.1.c1
      have a2 := HC.out.1.c2
      have a3 := HC.out.1.c3
      have a4 := HC.out.1.c4
      have a5 := HC.out.1.c5
      have b0 := HC.out.2.1.c0
      have b1 := HC.out.2.1.c1
      have b2 := HC.out.2.1.c2
      have b3 := HC.out.2.1.c3
      have b4 := HC.out.2.1.c4
      have b5 := HC.out.2.1.c5
      have f0 := HC.out.2.2.1.f0
      have f1 := HC.out.2.2.1.f1
      have f2 := HC.out.2.2.1.f2
      have f3 := HC.out.2.2.1.f3
      have f4 := HC.out.2.2.1.f4
      have f5 := HC.out.2.2.1.f5
      have hB := HC.out.2.2.2
      go_wp2_with fail
      have zw := HC.out.2.1.wrote (up (low s)) k (cleanN k n) (min lo hi) (max lo hi) (up (lp p))
      have hZ := st6_below HC.out.2.2.2 (N + 1) (Nat.le_succ _) (.int .i64 (up (low s))) (.bool k) (.int .i64 (cleanN k n)) (.int .i64 (min lo hi)) (.int .i64 (max lo hi)) (.int .i64 (up (lp p)))
      clear HC hB e1 e2 d1 d2 a0 a1 a2 a3 a4 a5 b0 b1 b2 b3 b4 b5 f0 f1 f2 f3 f4 f5
      have a0 := zw.c0
      have a1 := zw.c1
      have a2 := zw.c2
      have a3 := zw.c3
      have a4 := zw.c4
      have a5 := zw.c5
      clear zw
      refine bodyPost_ret (by simp [results, Tryd.results13, go_sem, *]; try rfl) rfl ⟨?_, by rw [← HN.out]; exact hZ⟩
      rw [HQ.out] <;> rfl
end Go.Proofs.YthiacdbjlkpfgaaDoor
