import Derived.Test.YthiacdbjlkpfgaaDoorG00
import Derived.Lib.ItoaWalk
import Derived.Deep.CutBlock
import Derived.LoopTactic
import Derived.Deep.DeepCutAuto
namespace Go.Proofs.YthiacdbjlkpfgaaDoor
open Go.RowKit
/-- all that is told of a number -/
structure V where
  s : BitVec 3
  k : Bool
  n : Int
  lo : Int
  hi : Int
  p : BitVec 3
theorem V.ext' {a b : V} (h1 : a.s = b.s) (h2 : a.k = b.k) (h3 : a.n = b.n) (h4 : a.lo = b.lo) (h5 : a.hi = b.hi) (h6 : a.p = b.p) : a = b := by
  cases a; cases b; dsimp only at *; subst h1 h2 h3 h4 h5 h6; rfl
/-- Right -/
structure V.ok (v : V) : Prop where
  s : v.s ≠ 0
  p : v.p ≠ 0
  p3 : v.p &&& 3 = v.p
  n : v.k = false → v.n = 0
  sp : Sp (v.lo, v.hi)
  i : i64 v.n
/-- a parity's bits alone -/
def V.pa (v : V) : Prop := v.p &&& 3 = v.p
def zeroV : V := ⟨0, false, 0, 0, 0, 0⟩
def joinV (a b : V) : V := ⟨a.s ||| b.s, joinI a.k a.n b.k b.n, joinN a.k a.n b.k b.n, min a.lo b.lo, max a.hi b.hi, a.p ||| b.p⟩
def withinV (a b : V) : Bool := withinS a.s b.s && (withinK a.k a.n b.k b.n && (withinR a.lo a.hi b.lo b.hi && withinS a.p b.p))
def widenV (a b : V) : V := ⟨a.s ||| b.s, joinI a.k a.n b.k b.n, joinN a.k a.n b.k b.n, (if min a.lo b.lo < a.lo then -9223372036854775808 else a.lo), (if a.hi < max a.hi b.hi then 9223372036854775807 else a.hi), a.p ||| b.p⟩
def mok (a b : V) : Bool := (meetOk a.k a.n b.k b.n && decide (max a.lo b.lo ≤ min a.hi b.hi)) && ((a.s &&& b.s) != 0) && ((a.p &&& b.p) != 0)
def mraw (a b : V) : V := ⟨a.s &&& b.s, meetI a.k a.n b.k b.n, meetN a.k a.n b.k b.n, max a.lo b.lo, min a.hi b.hi, a.p &&& b.p⟩
def meetV (a b : V) : V × Bool := if mok a b = true then (mraw a b, true) else (zeroV, false)
def ofV (n : Int) : V := ⟨sg n, true, n, n, n, pr n⟩
def anyV : V := ⟨7, false, 0, -9223372036854775808, 9223372036854775807, 3⟩
def hasV (v : V) (n : Int) : Bool := hasS v.s n && (hasK v.k v.n n && (hasR v.lo v.hi n && hasP v.p n))
def fixV (s : Int) (k : Bool) (n lo hi p : Int) : V := ⟨if low s = 0 then 7 else low s, k, cleanN k n, min lo hi, max lo hi, if low p &&& 3 = 0 then 3 else low p &&& 3⟩
theorem fix_ok (s : Int) (k : Bool) (n lo hi p : Int) (hn : i64 n) (h1 : i64 lo) (h2 : i64 hi) : (fixV s k n lo hi p).ok := by
  unfold fixV
  generalize low s = x
  generalize low p = y
  refine ⟨?_, ?_, ?_, ?_, ?_, ?_⟩
  · show (if x = 0 then 7 else x) ≠ 0
    revert x; decide
  · show (if y &&& 3 = 0 then 3 else y &&& 3) ≠ 0
    revert y; decide
  · show (if y &&& 3 = 0 then 3 else y &&& 3) &&& 3 = (if y &&& 3 = 0 then 3 else y &&& 3)
    revert y; decide
  · intro h; dsimp only at h ⊢; subst h; rfl
  · unfold Sp; unfold i64 at h1 h2; dsimp only; omega
  · dsimp only; unfold cleanN; split
    · exact hn
    · unfold i64; omega
theorem joinK_comm (a : Bool) (n : Int) (b : Bool) (m : Int) : joinI a n b m = joinI b m a n ∧ joinN a n b m = joinN b m a n := by
  unfold joinI joinN
  by_cases h : n = m
  · subst h; cases a <;> cases b <;> simp
  · have h1 : (n == m) = false := by rw [beq_eq_false_iff_ne]; exact h
    have h2 : (m == n) = false := by rw [beq_eq_false_iff_ne]; exact fun t => h t.symm
    have h3 : ¬ m = n := fun t => h t.symm
    rw [h1, h2]
    cases a <;> cases b <;> simp [h, h3]
theorem join_comm (x y : V) : joinV x y = joinV y x := by
  have k := joinK_comm x.k x.n y.k y.n
  exact V.ext' (BitVec.or_comm _ _) k.1 k.2 (Int.min_comm _ _) (Int.max_comm _ _) (BitVec.or_comm _ _)
theorem joinK_assoc (a : Bool) (n : Int) (b : Bool) (m : Int) (c : Bool) (l : Int) : joinI (joinI a n b m) (joinN a n b m) c l = joinI a n (joinI b m c l) (joinN b m c l) ∧ joinN (joinI a n b m) (joinN a n b m) c l = joinN a n (joinI b m c l) (joinN b m c l) := by
  unfold joinI joinN
  by_cases h : n = m
  · subst h
    by_cases h2 : n = l
    · subst h2; cases a <;> cases b <;> cases c <;> simp
    · have e : (n == l) = false := by rw [beq_eq_false_iff_ne]; exact h2
      cases a <;> cases b <;> cases c <;> simp [h2]
  · have e : (n == m) = false := by rw [beq_eq_false_iff_ne]; exact h
    by_cases h2 : m = l
    · subst h2
      cases a <;> cases b <;> cases c <;> simp [h]
    · have e2 : (m == l) = false := by rw [beq_eq_false_iff_ne]; exact h2
      cases a <;> cases b <;> cases c <;> simp [h, h2, e, e2]
theorem join_assoc (x y z : V) : joinV (joinV x y) z = joinV x (joinV y z) := by
  have k := joinK_assoc x.k x.n y.k y.n z.k z.n
  exact V.ext' (BitVec.or_assoc _ _ _) k.1 k.2 (Int.min_assoc _ _ _) (Int.max_assoc _ _ _) (BitVec.or_assoc _ _ _)
theorem join_idem (x : V) (h : x.ok) : joinV x x = x := by
  refine V.ext' (BitVec.or_self) ?_ ?_ (Int.min_self _) (Int.max_self _) (BitVec.or_self)
  · unfold joinV joinI; cases x.k <;> simp
  · have := h.n
    unfold joinV joinN
    cases hk : x.k <;> simp_all
theorem ws_or (x y : BitVec 3) : withinS x (x ||| y) = true ∧ withinS y (x ||| y) = true := by revert x y; decide
theorem wk_join (a : Bool) (n : Int) (b : Bool) (m : Int) : withinK a n (joinI a n b m) (joinN a n b m) = true ∧ withinK b m (joinI a n b m) (joinN a n b m) = true := by
  unfold withinK joinI joinN
  cases a <;> cases b <;> by_cases h : n = m <;> simp [h]
theorem ws_lub (x y z : BitVec 3) : withinS x z = true → withinS y z = true → withinS (x ||| y) z = true := by revert x y z; decide
theorem wk_lub (a : Bool) (n : Int) (b : Bool) (m : Int) (c : Bool) (l : Int) (h1 : withinK a n c l = true) (h2 : withinK b m c l = true) : withinK (joinI a n b m) (joinN a n b m) c l = true := by
  unfold withinK joinI joinN at *
  cases a <;> cases b <;> cases c <;> simp_all
theorem withinV_iff (x y : V) : withinV x y = true ↔ withinS x.s y.s = true ∧ withinK x.k x.n y.k y.n = true ∧ (y.lo ≤ x.lo ∧ x.hi ≤ y.hi) ∧ withinS x.p y.p = true := by
  unfold withinV withinR
  simp only [Bool.and_eq_true, decide_eq_true_iff]
theorem join_in (x y : V) : withinV x (joinV x y) = true ∧ withinV y (joinV x y) = true := by
  have a := ws_or x.s y.s
  have b := wk_join x.k x.n y.k y.n
  have c := ws_or x.p y.p
  rw [withinV_iff, withinV_iff]
  refine ⟨⟨a.1, b.1, ?_, c.1⟩, ⟨a.2, b.2, ?_, c.2⟩⟩ <;> (dsimp only [joinV]; omega)
theorem join_lub (x y z : V) (h1 : withinV x z = true) (h2 : withinV y z = true) : withinV (joinV x y) z = true := by
  rw [withinV_iff] at *
  refine ⟨ws_lub _ _ _ h1.1 h2.1, wk_lub _ _ _ _ _ _ h1.2.1 h2.2.1, ?_, ws_lub _ _ _ h1.2.2.2 h2.2.2.2⟩
  dsimp only [joinV]
  omega
theorem mok_iff (a b : V) : mok a b = true ↔ (meetOk a.k a.n b.k b.n = true ∧ max a.lo b.lo ≤ min a.hi b.hi) ∧ (a.s &&& b.s ≠ 0) ∧ (a.p &&& b.p ≠ 0) := by
  unfold mok
  simp only [Bool.and_eq_true, decide_eq_true_eq, bne_iff_ne, ne_eq]
  constructor
  · rintro ⟨⟨h, h1⟩, h2⟩; exact ⟨h, h1, h2⟩
  · rintro ⟨h, h1, h2⟩; exact ⟨⟨h, h1⟩, h2⟩
theorem meetK_comm (a : Bool) (n : Int) (b : Bool) (m : Int) : meetOk a n b m = meetOk b m a n ∧ (meetOk a n b m = true → meetI a n b m = meetI b m a n ∧ meetN a n b m = meetN b m a n) := by
  unfold meetOk meetI meetN
  by_cases h : n = m
  · subst h; cases a <;> cases b <;> simp
  · have h1 : (n == m) = false := by rw [beq_eq_false_iff_ne]; exact h
    have h2 : (m == n) = false := by rw [beq_eq_false_iff_ne]; exact fun t => h t.symm
    unfold bne
    rw [h1, h2]
    cases a <;> cases b <;> simp
theorem meet_comm (x y : V) : meetV x y = meetV y x := by
  have k := meetK_comm x.k x.n y.k y.n
  have e : mok x y = mok y x := by
    unfold mok
    rw [k.1, Int.max_comm, Int.min_comm, BitVec.and_comm, BitVec.and_comm x.p]
  unfold meetV
  rw [← e]
  by_cases h : mok x y = true
  · rw [if_pos h, if_pos h]
    rw [mok_iff] at h
    have k2 := k.2 h.1.1
    rw [show mraw x y = mraw y x from V.ext' (BitVec.and_comm _ _) k2.1 k2.2 (Int.max_comm _ _) (Int.min_comm _ _) (BitVec.and_comm _ _)]
  · rw [if_neg h, if_neg h]
theorem ws_and (x y : BitVec 3) : withinS (x &&& y) x = true ∧ withinS (x &&& y) y = true := by revert x y; decide
theorem wk_meet (a : Bool) (n : Int) (b : Bool) (m : Int) (h : meetOk a n b m = true) : withinK (meetI a n b m) (meetN a n b m) a n = true ∧ withinK (meetI a n b m) (meetN a n b m) b m = true := by
  unfold withinK meetI meetN meetOk at *
  cases a <;> cases b <;> by_cases h : n = m <;> simp_all
theorem meetV_ok {x y : V} (h : (meetV x y).2 = true) : mok x y = true ∧ (meetV x y).1 = mraw x y := by
  unfold meetV at *
  by_cases h1 : mok x y = true
  · rw [if_pos h1]; exact ⟨h1, rfl⟩
  · rw [if_neg h1] at h; cases h
theorem meetV_no {x y : V} (h : (meetV x y).2 = false) : mok x y = false ∧ (meetV x y).1 = zeroV := by
  unfold meetV at *
  by_cases h1 : mok x y = true
  · rw [if_pos h1] at h; cases h
  · rw [if_neg h1]; exact ⟨by simpa using h1, rfl⟩
theorem meetV_2 (x y : V) : (meetV x y).2 = mok x y := by
  cases h : (meetV x y).2
  · exact (meetV_no h).1.symm
  · exact (meetV_ok h).1.symm
theorem meet_in (x y : V) (h : (meetV x y).2 = true) : withinV (meetV x y).1 x = true ∧ withinV (meetV x y).1 y = true := by
  obtain ⟨h1, h2⟩ := meetV_ok h
  rw [mok_iff] at h1
  rw [h2, withinV_iff, withinV_iff]
  have a := ws_and x.s y.s
  have b := wk_meet _ _ _ _ h1.1.1
  have c := ws_and x.p y.p
  refine ⟨⟨a.1, b.1, ?_, c.1⟩, ⟨a.2, b.2, ?_, c.2⟩⟩ <;> (dsimp only [mraw]; omega)
theorem ws_glb (x y z : BitVec 3) : z ≠ 0 → withinS z x = true → withinS z y = true → x &&& y ≠ 0 ∧ withinS z (x &&& y) = true := by revert x y z; decide
theorem wk_glb (a : Bool) (n : Int) (b : Bool) (m : Int) (c : Bool) (l : Int) (h1 : withinK c l a n = true) (h2 : withinK c l b m = true) : meetOk a n b m = true ∧ withinK c l (meetI a n b m) (meetN a n b m) = true := by
  unfold withinK meetI meetN meetOk at *
  cases a <;> cases b <;> cases c <;> simp_all
theorem meet_glb (x y z : V) (hz : z.ok) (h1 : withinV z x = true) (h2 : withinV z y = true) : (meetV x y).2 = true ∧ withinV z (meetV x y).1 = true := by
  rw [withinV_iff] at h1 h2
  have a := ws_glb _ _ _ hz.s h1.1 h2.1
  have b := wk_glb _ _ _ _ _ _ h1.2.1 h2.2.1
  have c := ws_glb _ _ _ hz.p h1.2.2.2 h2.2.2.2
  have s := hz.sp
  unfold Sp at s
  dsimp only at s
  have k : mok x y = true := by
    rw [mok_iff]
    exact ⟨⟨b.1, by omega⟩, a.1, c.1⟩
  have e : (meetV x y).2 = true := by rw [meetV_2]; exact k
  refine ⟨e, ?_⟩
  rw [(meetV_ok e).2, withinV_iff]
  refine ⟨a.2, b.2, ?_, c.2⟩
  dsimp only [mraw]
  omega
theorem meetK_assoc (a : Bool) (n : Int) (b : Bool) (m : Int) (c : Bool) (l : Int) : ((meetOk a n b m = true ∧ meetOk (meetI a n b m) (meetN a n b m) c l = true) ↔ (meetOk b m c l = true ∧ meetOk a n (meetI b m c l) (meetN b m c l) = true)) ∧ ((meetOk a n b m = true ∧ meetOk (meetI a n b m) (meetN a n b m) c l = true) → meetI (meetI a n b m) (meetN a n b m) c l = meetI a n (meetI b m c l) (meetN b m c l) ∧ meetN (meetI a n b m) (meetN a n b m) c l = meetN a n (meetI b m c l) (meetN b m c l)) := by
  unfold meetOk meetI meetN
  cases a <;> cases b <;> cases c <;> by_cases h : n = m <;> by_cases h2 : m = l <;> by_cases h3 : n = l <;> simp_all [bne]
theorem mok_assoc (x y z : V) (hx : x.ok) (hy : y.ok) (hz : z.ok) : (mok x y = true ∧ mok (mraw x y) z = true ↔ mok y z = true ∧ mok x (mraw y z) = true) ∧ (mok x y = true ∧ mok (mraw x y) z = true → mraw (mraw x y) z = mraw x (mraw y z)) := by
  have k := meetK_assoc x.k x.n y.k y.n z.k z.n
  have s1 := hx.sp
  have s2 := hy.sp
  have s3 := hz.sp
  unfold Sp at s1 s2 s3
  dsimp only at s1 s2 s3
  simp only [mok_iff]
  have bs : ∀ a b c : BitVec 3, (a &&& b ≠ 0 ∧ (a &&& b) &&& c ≠ 0) ↔ (b &&& c ≠ 0 ∧ a &&& (b &&& c) ≠ 0) := by decide
  have e1 := bs x.s y.s z.s
  have e2 := bs x.p y.p z.p
  dsimp only [mraw]
  constructor
  · constructor
    · rintro ⟨⟨⟨p1, p2⟩, p3, p4⟩, ⟨q1, q2⟩, q3, q4⟩
      have kk := k.1.1 ⟨p1, q1⟩
      have a1 := e1.1 ⟨p3, q3⟩
      have a2 := e2.1 ⟨p4, q4⟩
      exact ⟨⟨⟨kk.1, by omega⟩, a1.1, a2.1⟩, ⟨kk.2, by omega⟩, a1.2, a2.2⟩
    · rintro ⟨⟨⟨p1, p2⟩, p3, p4⟩, ⟨q1, q2⟩, q3, q4⟩
      have kk := k.1.2 ⟨p1, q1⟩
      have a1 := e1.2 ⟨p3, q3⟩
      have a2 := e2.2 ⟨p4, q4⟩
      exact ⟨⟨⟨kk.1, by omega⟩, a1.1, a2.1⟩, ⟨kk.2, by omega⟩, a1.2, a2.2⟩
  · rintro ⟨⟨⟨p1, p2⟩, p3, p4⟩, ⟨q1, q2⟩, q3, q4⟩
    have kk := k.2 ⟨p1, q1⟩
    exact V.ext' (BitVec.and_assoc _ _ _) kk.1 kk.2 (Int.max_assoc _ _ _) (Int.min_assoc _ _ _) (BitVec.and_assoc _ _ _)
/-- of three, in either order -/
theorem meet_three (x y z : V) (hx : x.ok) (hy : y.ok) (hz : z.ok) : ((meetV x y).2 && (meetV (meetV x y).1 z).2) = ((meetV y z).2 && (meetV x (meetV y z).1).2) ∧ (((meetV x y).2 && (meetV (meetV x y).1 z).2) = true → (meetV (meetV x y).1 z).1 = (meetV x (meetV y z).1).1) := by
  have k := mok_assoc x y z hx hy hz
  have L : ((meetV x y).2 && (meetV (meetV x y).1 z).2) = true ↔ mok x y = true ∧ mok (mraw x y) z = true := by
    rw [Bool.and_eq_true]
    constructor
    · rintro ⟨a, b⟩; rw [(meetV_ok a).2] at b; exact ⟨(meetV_ok a).1, (meetV_ok b).1⟩
    · rintro ⟨a, b⟩
      have a' : (meetV x y).2 = true := by rw [meetV_2]; exact a
      refine ⟨a', ?_⟩
      rw [(meetV_ok a').2, meetV_2]
      exact b
  have R : ((meetV y z).2 && (meetV x (meetV y z).1).2) = true ↔ mok y z = true ∧ mok x (mraw y z) = true := by
    rw [Bool.and_eq_true]
    constructor
    · rintro ⟨a, b⟩; rw [(meetV_ok a).2] at b; exact ⟨(meetV_ok a).1, (meetV_ok b).1⟩
    · rintro ⟨a, b⟩
      have a' : (meetV y z).2 = true := by rw [meetV_2]; exact a
      refine ⟨a', ?_⟩
      rw [(meetV_ok a').2, meetV_2]
      exact b
  refine ⟨?_, ?_⟩
  · rw [Bool.eq_iff_iff, L, R]; exact k.1
  · intro h
    have h1 := L.1 h
    have h2 := k.1.1 h1
    have a1 : (meetV x y).2 = true := by rw [meetV_2]; exact h1.1
    have a2 : (meetV y z).2 = true := by rw [meetV_2]; exact h2.1
    rw [(meetV_ok a1).2, (meetV_ok a2).2]
    have b1 : (meetV (mraw x y) z).2 = true := by rw [meetV_2]; exact h1.2
    have b2 : (meetV x (mraw y z)).2 = true := by rw [meetV_2]; exact h2.2
    rw [(meetV_ok b1).2, (meetV_ok b2).2]
    exact k.2 h1
def pc3 (x : BitVec 3) : Nat := (if x.getLsbD 0 then 0 else 1) + (if x.getLsbD 1 then 0 else 1) + (if x.getLsbD 2 then 0 else 1)
def pc2 (x : BitVec 3) : Nat := (if x.getLsbD 0 then 0 else 1) + (if x.getLsbD 1 then 0 else 1)
def kx (b : Bool) : Nat := if b then 1 else 0
def lx (i : Int) : Nat := if i = -9223372036854775808 then 0 else 1
def gx (i : Int) : Nat := if i = 9223372036854775807 then 0 else 1
def low2 (u v : Int) : Int := if min u v < u then -9223372036854775808 else u
def hig2 (u v : Int) : Int := if u < max u v then 9223372036854775807 else u
/-- how often it may change -/
def pot (v : V) : Nat := pc3 v.s + kx v.k + lx v.lo + gx v.hi + pc2 v.p
theorem pc3_le (x : BitVec 3) : x ≠ 0 → pc3 x ≤ 2 := by revert x; decide
theorem pc2_le (x : BitVec 3) : x ≠ 0 → x &&& 3 = x → pc2 x ≤ 1 := by revert x; decide
theorem pot_le (v : V) (h : v.ok) : pot v ≤ 6 := by
  have a := pc3_le _ h.s
  have b := pc2_le _ h.p h.p3
  unfold pot kx lx gx
  split <;> split <;> split <;> omega
theorem pc3_or (x y : BitVec 3) : pc3 (x ||| y) ≤ pc3 x ∧ (x ||| y ≠ x → pc3 (x ||| y) + 1 ≤ pc3 x) := by revert x y; decide
theorem pc2_or (x y : BitVec 3) : x &&& 3 = x → y &&& 3 = y → pc2 (x ||| y) ≤ pc2 x ∧ (x ||| y ≠ x → pc2 (x ||| y) + 1 ≤ pc2 x) := by revert x y; decide
theorem widen_ok (x c : V) (hx : x.ok) (hc : c.ok) : (widenV x c).ok := by
  have b1 : ∀ a b : BitVec 3, a ≠ 0 → a ||| b ≠ 0 := by decide
  have b2 : ∀ a b : BitVec 3, a &&& 3 = a → b &&& 3 = b → (a ||| b) &&& 3 = a ||| b := by decide
  have s := hx.sp
  have t := hc.sp
  unfold Sp at s t
  dsimp only at s t
  refine ⟨b1 _ _ hx.s, b1 _ _ hx.p, b2 _ _ hx.p3 hc.p3, ?_, ?_, ?_⟩
  · dsimp only [widenV]
    unfold joinI joinN
    intro h
    rw [if_neg]
    rintro ⟨h1, h2, h3⟩
    simp [h1, h2, h3] at h
  · unfold Sp
    dsimp only [widenV]
    split <;> split <;> omega
  · dsimp only [widenV]
    unfold joinN
    split
    · exact hx.i
    · unfold i64; omega
theorem widen_in (x c : V) (hx : x.ok) (hc : c.ok) : withinV x (widenV x c) = true ∧ withinV c (widenV x c) = true := by
  have a := ws_or x.s c.s
  have b := wk_join x.k x.n c.k c.n
  have d := ws_or x.p c.p
  have s := hx.sp
  have t := hc.sp
  unfold Sp at s t
  dsimp only at s t
  rw [withinV_iff, withinV_iff]
  refine ⟨⟨a.1, b.1, ?_, d.1⟩, ⟨a.2, b.2, ?_, d.2⟩⟩ <;> (dsimp only [widenV]; split <;> split <;> omega)
theorem joinK_mono (a : Bool) (n : Int) (b : Bool) (m : Int) (h : a = false → n = 0) : kx (joinI a n b m) ≤ kx a ∧ (¬ (joinI a n b m = a ∧ joinN a n b m = n) → kx (joinI a n b m) + 1 ≤ kx a) := by
  unfold joinI joinN kx
  cases a <;> cases b <;> by_cases h2 : n = m <;> simp_all
theorem widen_pot (x c : V) (hx : x.ok) (hc : c.ok) : widenV x c ≠ x → pot (widenV x c) + 1 ≤ pot x := by
  intro h
  have a := pc3_or x.s c.s
  have b := joinK_mono x.k x.n c.k c.n hx.n
  have d := pc2_or x.p c.p hx.p3 hc.p3
  have s := hx.sp
  have t := hc.sp
  unfold Sp at s t
  dsimp only at s t
  have l : ∀ u v : Int, -9223372036854775808 ≤ v → lx (low2 u v) ≤ lx u ∧ (low2 u v ≠ u → lx (low2 u v) + 1 ≤ lx u) := by
    intro u v hv
    unfold low2
    by_cases h1 : min u v < u
    · rw [if_pos h1]; unfold lx; rw [if_pos rfl, if_neg (by omega)]; omega
    · rw [if_neg h1]; exact ⟨Nat.le_refl _, fun t => absurd rfl t⟩
  have g : ∀ u v : Int, v ≤ 9223372036854775807 → gx (hig2 u v) ≤ gx u ∧ (hig2 u v ≠ u → gx (hig2 u v) + 1 ≤ gx u) := by
    intro u v hv
    unfold hig2
    by_cases h1 : u < max u v
    · rw [if_pos h1]; unfold gx; rw [if_pos rfl, if_neg (by omega)]; omega
    · rw [if_neg h1]; exact ⟨Nat.le_refl _, fun t => absurd rfl t⟩
  have l := l x.lo c.lo (by omega)
  have g := g x.hi c.hi (by omega)
  have e : pot (widenV x c) = pc3 (x.s ||| c.s) + kx (joinI x.k x.n c.k c.n) + lx (low2 x.lo c.lo) + gx (hig2 x.hi c.hi) + pc2 (x.p ||| c.p) := rfl
  rw [e]
  unfold pot
  by_cases h1 : x.s ||| c.s = x.s
  · by_cases h2 : joinI x.k x.n c.k c.n = x.k ∧ joinN x.k x.n c.k c.n = x.n
    · by_cases h3 : low2 x.lo c.lo = x.lo
      · by_cases h4 : hig2 x.hi c.hi = x.hi
        · by_cases h5 : x.p ||| c.p = x.p
          · exact absurd (V.ext' h1 h2.1 h2.2 h3 h4 h5) h
          · have := d.2 h5; omega
        · have := g.2 h4; omega
      · have := l.2 h3; omega
    · have := b.2 h2; omega
  · have := a.2 h1; omega
end Go.Proofs.YthiacdbjlkpfgaaDoor
namespace Go.Proofs.YthiacdbjlkpfgaaDoor
open Go.RowKit
set_option maxHeartbeats 4000000 in
theorem nmeet_any (a b : Int × Int) (w : World) : Calls Tryd.prog 66 #[.agg #[.int .i64 a.1, .int .i64 a.2], .agg #[.int .i64 b.1, .int .i64 b.2]] w fun e w' => e = .returned (.tuple #[.agg #[.int .i64 ((meetP a b).1).1, .int .i64 ((meetP a b).1).2], .bool (meetP a b).2]) ∧ New5 w w' := by
  by_cases h1 : a.1 < b.1
  · by_cases h2 : b.2 < a.2
    · by_cases h3 : b.1 ≤ b.2 <;>
      · go_enter Tryd.func66, Tryd.ntmps66
        go_wp2
        all_goals (refine bodyPost_ret (by simp [results, Tryd.results66, go_sem]; try rfl) rfl ⟨?_, _, _, _, _, _, rfl⟩; exact ret_sb (by unfold meetP; repeat' (first | rfl | omega | (dsimp only; omega) | split | (exfalso; omega))) (by unfold meetP; repeat' (first | rfl | omega | (dsimp only; omega) | split | (exfalso; omega))) (by unfold meetP; repeat' (first | rfl | omega | (dsimp only; omega) | split | (exfalso; omega))))
    · by_cases h3 : b.1 ≤ a.2 <;>
      · go_enter Tryd.func66, Tryd.ntmps66
        go_wp2
        all_goals (refine bodyPost_ret (by simp [results, Tryd.results66, go_sem]; try rfl) rfl ⟨?_, _, _, _, _, _, rfl⟩; exact ret_sb (by unfold meetP; repeat' (first | rfl | omega | (dsimp only; omega) | split | (exfalso; omega))) (by unfold meetP; repeat' (first | rfl | omega | (dsimp only; omega) | split | (exfalso; omega))) (by unfold meetP; repeat' (first | rfl | omega | (dsimp only; omega) | split | (exfalso; omega))))
  · by_cases h2 : b.2 < a.2
    · by_cases h3 : a.1 ≤ b.2 <;>
      · go_enter Tryd.func66, Tryd.ntmps66
        go_wp2
        all_goals (refine bodyPost_ret (by simp [results, Tryd.results66, go_sem]; try rfl) rfl ⟨?_, _, _, _, _, _, rfl⟩; exact ret_sb (by unfold meetP; repeat' (first | rfl | omega | (dsimp only; omega) | split | (exfalso; omega))) (by unfold meetP; repeat' (first | rfl | omega | (dsimp only; omega) | split | (exfalso; omega))) (by unfold meetP; repeat' (first | rfl | omega | (dsimp only; omega) | split | (exfalso; omega))))
    · by_cases h3 : a.1 ≤ a.2 <;>
      · go_enter Tryd.func66, Tryd.ntmps66
        go_wp2
        all_goals (refine bodyPost_ret (by simp [results, Tryd.results66, go_sem]; try rfl) rfl ⟨?_, _, _, _, _, _, rfl⟩; exact ret_sb (by unfold meetP; repeat' (first | rfl | omega | (dsimp only; omega) | split | (exfalso; omega))) (by unfold meetP; repeat' (first | rfl | omega | (dsimp only; omega) | split | (exfalso; omega))) (by unfold meetP; repeat' (first | rfl | omega | (dsimp only; omega) | split | (exfalso; omega))))
end Go.Proofs.YthiacdbjlkpfgaaDoor
namespace Go.Proofs.YthiacdbjlkpfgaaDoor
open Go.RowKit
theorem hide {p : Prop} (h : p) : Hid p := h
/-- a Value's six cells at a block -/
structure Br (w : World) (q : Nat) (s : Int) (k : Bool) (n lo hi p : Int) : Prop where
  c0 : w.cell? ⟨q, 0, none⟩ = some (.int .i64 s)
  c1 : w.cell? ⟨q, 1, none⟩ = some (.bool k)
  c2 : w.cell? ⟨q, 2, none⟩ = some (.int .i64 n)
  c3 : w.cell? ⟨q, 3, none⟩ = some (.int .i64 lo)
  c4 : w.cell? ⟨q, 4, none⟩ = some (.int .i64 hi)
  c5 : w.cell? ⟨q, 5, none⟩ = some (.int .i64 p)
/-- they may be written -/
structure Fz (w : World) (q : Nat) : Prop where
  f0 : w.frozen? ⟨q, 0, none⟩ = false
  f1 : w.frozen? ⟨q, 1, none⟩ = false
  f2 : w.frozen? ⟨q, 2, none⟩ = false
  f3 : w.frozen? ⟨q, 3, none⟩ = false
  f4 : w.frozen? ⟨q, 4, none⟩ = false
  f5 : w.frozen? ⟨q, 5, none⟩ = false
theorem Br.lt {w : World} {q : Nat} {s : Int} {k : Bool} {n lo hi p : Int} (h : Br w q s k n lo hi p) : q < w.heap.size := World.block_lt_of_cell? w _ h.c0
theorem Br.keep {w w' : World} {q : Nat} {s : Int} {k : Bool} {n lo hi p : Int} (h : Br w q s k n lo hi p) (hb : Below w.heap.size w w') : Br w' q s k n lo hi p :=
  ⟨((bcell hb).1 q 0 h.lt).trans h.c0, ((bcell hb).1 q 1 h.lt).trans h.c1, ((bcell hb).1 q 2 h.lt).trans h.c2, ((bcell hb).1 q 3 h.lt).trans h.c3, ((bcell hb).1 q 4 h.lt).trans h.c4, ((bcell hb).1 q 5 h.lt).trans h.c5⟩
theorem Fz.keep {w w' : World} {q : Nat} (h : Fz w q) (hq : q < w.heap.size) (hb : Below w.heap.size w w') : Fz w' q :=
  ⟨((bcell hb).2 q 0 hq).trans h.f0, ((bcell hb).2 q 1 hq).trans h.f1, ((bcell hb).2 q 2 hq).trans h.f2, ((bcell hb).2 q 3 hq).trans h.f3, ((bcell hb).2 q 4 hq).trans h.f4, ((bcell hb).2 q 5 hq).trans h.f5⟩
theorem Br.new (w : World) (s : Int) (k : Bool) (n lo hi p : Int) (t : TypeId) : Br (w.alloc (.cells #[.int .i64 s, .bool k, .int .i64 n, .int .i64 lo, .int .i64 hi, .int .i64 p] t)) w.heap.size s k n lo hi p := ⟨by simp, by simp, by simp, by simp, by simp, by simp⟩
theorem Fz.new (w : World) (s : Int) (k : Bool) (n lo hi p : Int) (t : TypeId) : Fz (w.alloc (.cells #[.int .i64 s, .bool k, .int .i64 n, .int .i64 lo, .int .i64 hi, .int .i64 p] t)) w.heap.size := ⟨by simp [go_sem], by simp [go_sem], by simp [go_sem], by simp [go_sem], by simp [go_sem], by simp [go_sem]⟩
/-- a Value is written -/
abbrev st6 (w : World) (q : Nat) (a b c d e f : Value) : World := (((((w.setCell ⟨q, 0, none⟩ a).setCell ⟨q, 1, none⟩ b).setCell ⟨q, 2, none⟩ c).setCell ⟨q, 3, none⟩ d).setCell ⟨q, 4, none⟩ e).setCell ⟨q, 5, none⟩ f
theorem st6_cell (w : World) (q r o : Nat) (a b c d e f : Value) (h : r ≠ q) : (st6 w q a b c d e f).cell? ⟨r, o, none⟩ = w.cell? ⟨r, o, none⟩ := by
  have ne : ∀ j : Nat, (⟨q, j, none⟩ : Addr) ≠ ⟨r, o, none⟩ := fun j t => h (congrArg Addr.block t).symm
  unfold st6
  rw [World.cell?_setCell_other _ _ _ _ (ne 5), World.cell?_setCell_other _ _ _ _ (ne 4), World.cell?_setCell_other _ _ _ _ (ne 3), World.cell?_setCell_other _ _ _ _ (ne 2), World.cell?_setCell_other _ _ _ _ (ne 1), World.cell?_setCell_other _ _ _ _ (ne 0)]
theorem st6_frozen (w : World) (q r o : Nat) (a b c d e f : Value) : (st6 w q a b c d e f).frozen? ⟨r, o, none⟩ = w.frozen? ⟨r, o, none⟩ := by
  unfold st6
  simp
theorem Br.put {w : World} {q r : Nat} {s : Int} {k : Bool} {n lo hi p : Int} (h : Br w r s k n lo hi p) (hq : r ≠ q) (a b c d e f : Value) : Br (st6 w q a b c d e f) r s k n lo hi p :=
  ⟨(st6_cell w q r 0 a b c d e f hq).trans h.c0, (st6_cell w q r 1 a b c d e f hq).trans h.c1, (st6_cell w q r 2 a b c d e f hq).trans h.c2, (st6_cell w q r 3 a b c d e f hq).trans h.c3, (st6_cell w q r 4 a b c d e f hq).trans h.c4, (st6_cell w q r 5 a b c d e f hq).trans h.c5⟩
theorem Fz.put {w : World} {q r : Nat} (h : Fz w r) (a b c d e f : Value) : Fz (st6 w q a b c d e f) r :=
  ⟨(st6_frozen w q r 0 a b c d e f).trans h.f0, (st6_frozen w q r 1 a b c d e f).trans h.f1, (st6_frozen w q r 2 a b c d e f).trans h.f2, (st6_frozen w q r 3 a b c d e f).trans h.f3, (st6_frozen w q r 4 a b c d e f).trans h.f4, (st6_frozen w q r 5 a b c d e f).trans h.f5⟩
theorem Br.wrote {w : World} {q : Nat} {s : Int} {k : Bool} {n lo hi p : Int} (h : Br w q s k n lo hi p) (s' : Int) (k' : Bool) (n' lo' hi' p' : Int) : Br (st6 w q (.int .i64 s') (.bool k') (.int .i64 n') (.int .i64 lo') (.int .i64 hi') (.int .i64 p')) q s' k' n' lo' hi' p' := by
  have c0 := h.c0
  have c1 := h.c1
  have c2 := h.c2
  have c3 := h.c3
  have c4 := h.c4
  have c5 := h.c5
  unfold st6
  refine ⟨?_, ?_, ?_, ?_, ?_, ?_⟩ <;> simp [go_sem, *]
theorem st6_size (w : World) (q : Nat) (a b c d e f : Value) : (st6 w q a b c d e f).heap.size = w.heap.size := by unfold st6; simp
theorem st6_below {N : Nat} {w0 w : World} (h : Below N w0 w) (q : Nat) (hq : N ≤ q) (a b c d e f : Value) : Below N w0 (st6 w q a b c d e f) :=
  (((((h.setCell (p := ⟨q, 0, none⟩) hq a).setCell (p := ⟨q, 1, none⟩) hq b).setCell (p := ⟨q, 2, none⟩) hq c).setCell (p := ⟨q, 3, none⟩) hq d).setCell (p := ⟨q, 4, none⟩) hq e).setCell (p := ⟨q, 5, none⟩) hq f
theorem lift {S : World → Prop} {f : Nat} {args : Array Value} {w1 : World} {r : Value} (h : Calls Tryd.prog f args w1 fun e w' => e = .returned r ∧ Below w1.heap.size w1 w') (hS : S w1) (hcl : ∀ a b, S a → Below a.heap.size a b → S b) : Calls Tryd.prog f args w1 fun e w' => e = .returned r ∧ S w' :=
  h.mono fun _ _ ⟨h1, h2⟩ => ⟨h1, hcl _ _ hS h2⟩
theorem New1.bel {w w' : World} (h : New1 w w') : Below w.heap.size w w' := by obtain ⟨o, rfl⟩ := h; exact (Below.refl _ _).alloc (Nat.le_refl _) _
theorem New2.bel {w w' : World} (h : New2 w w') : Below w.heap.size w w' := by obtain ⟨o, p, rfl⟩ := h; exact ((Below.refl _ _).alloc (Nat.le_refl _) _).alloc (by simp) _
theorem New3.bel {w w' : World} (h : New3 w w') : Below w.heap.size w w' := by obtain ⟨o, p, q, rfl⟩ := h; exact (by repeat (first | exact Below.refl _ _ | (refine Below.drew ?_) | (refine below_drewN ?_ _) | (refine Below.setCell ?_ (by first | omega | (simp; done) | (simp; omega)) _) | (refine Below.alloc ?_ (by first | omega | (simp; done) | (simp; omega)) _) | (refine Below.trans ?_ (Below.mono (by assumption) (by first | omega | (simp; done) | (simp; omega))))))
theorem New4.bel {w w' : World} (h : New4 w w') : Below w.heap.size w w' := by obtain ⟨o, p, q, r, rfl⟩ := h; exact (by repeat (first | exact Below.refl _ _ | (refine Below.drew ?_) | (refine below_drewN ?_ _) | (refine Below.setCell ?_ (by first | omega | (simp; done) | (simp; omega)) _) | (refine Below.alloc ?_ (by first | omega | (simp; done) | (simp; omega)) _) | (refine Below.trans ?_ (Below.mono (by assumption) (by first | omega | (simp; done) | (simp; omega))))))
theorem New5.bel {w w' : World} (h : New5 w w') : Below w.heap.size w w' := by obtain ⟨o, p, q, r, s, rfl⟩ := h; exact (by repeat (first | exact Below.refl _ _ | (refine Below.drew ?_) | (refine below_drewN ?_ _) | (refine Below.setCell ?_ (by first | omega | (simp; done) | (simp; omega)) _) | (refine Below.alloc ?_ (by first | omega | (simp; done) | (simp; omega)) _) | (refine Below.trans ?_ (Below.mono (by assumption) (by first | omega | (simp; done) | (simp; omega))))))
theorem bel0 {f : Nat} {args : Array Value} {w1 : World} {r : Value} (h : Calls Tryd.prog f args w1 fun e w' => e = .returned r ∧ w' = w1) : Calls Tryd.prog f args w1 fun e w' => e = .returned r ∧ Below w1.heap.size w1 w' := h.mono fun _ _ ⟨h1, h2⟩ => ⟨h1, by rw [h2]; exact Below.refl _ _⟩
theorem bel1 {f : Nat} {args : Array Value} {w1 : World} {r : Value} (h : Calls Tryd.prog f args w1 fun e w' => e = .returned r ∧ New1 w1 w') : Calls Tryd.prog f args w1 fun e w' => e = .returned r ∧ Below w1.heap.size w1 w' := h.mono fun _ _ ⟨h1, h2⟩ => ⟨h1, h2.bel⟩
theorem bel2 {f : Nat} {args : Array Value} {w1 : World} {r : Value} (h : Calls Tryd.prog f args w1 fun e w' => e = .returned r ∧ New2 w1 w') : Calls Tryd.prog f args w1 fun e w' => e = .returned r ∧ Below w1.heap.size w1 w' := h.mono fun _ _ ⟨h1, h2⟩ => ⟨h1, h2.bel⟩
theorem bel3 {f : Nat} {args : Array Value} {w1 : World} {r : Value} (h : Calls Tryd.prog f args w1 fun e w' => e = .returned r ∧ New3 w1 w') : Calls Tryd.prog f args w1 fun e w' => e = .returned r ∧ Below w1.heap.size w1 w' := h.mono fun _ _ ⟨h1, h2⟩ => ⟨h1, h2.bel⟩
theorem bel4 {f : Nat} {args : Array Value} {w1 : World} {r : Value} (h : Calls Tryd.prog f args w1 fun e w' => e = .returned r ∧ New4 w1 w') : Calls Tryd.prog f args w1 fun e w' => e = .returned r ∧ Below w1.heap.size w1 w' := h.mono fun _ _ ⟨h1, h2⟩ => ⟨h1, h2.bel⟩
theorem bel5 {f : Nat} {args : Array Value} {w1 : World} {r : Value} (h : Calls Tryd.prog f args w1 fun e w' => e = .returned r ∧ New5 w1 w') : Calls Tryd.prog f args w1 fun e w' => e = .returned r ∧ Below w1.heap.size w1 w' := h.mono fun _ _ ⟨h1, h2⟩ => ⟨h1, h2.bel⟩
theorem lp_up (x : BitVec 3) (h : x &&& 3 = x) : lp (up x) = x := by unfold lp; rw [low_up]; exact h
theorem sjoinB (x y : BitVec 3) (w : World) : Calls Tryd.prog 41 #[.int .i64 (up x), .int .i64 (up y)] w fun e w' => e = .returned (.int .i64 (up (x ||| y))) ∧ Below w.heap.size w w' := by
  have h := bel0 (sjoin_any (up x) (up y) w)
  rw [low_up, low_up] at h
  exact h
theorem smeetB (x y : BitVec 3) (w : World) : Calls Tryd.prog 67 #[.int .i64 (up x), .int .i64 (up y)] w fun e w' => e = .returned (.int .i64 (up (x &&& y))) ∧ Below w.heap.size w w' := by
  have h := bel0 (smeet_any (up x) (up y) w)
  rw [low_up, low_up] at h
  exact h
theorem swithinB (x y : BitVec 3) (w : World) : Calls Tryd.prog 45 #[.int .i64 (up x), .int .i64 (up y)] w fun e w' => e = .returned (.bool (withinS x y)) ∧ Below w.heap.size w w' := by
  have h := bel0 (swithin_any (up x) (up y) w)
  rw [low_up, low_up] at h
  exact h
theorem pjoinB (x y : BitVec 3) (w : World) (hx : x &&& 3 = x) (hy : y &&& 3 = y) : Calls Tryd.prog 44 #[.int .i64 (up x), .int .i64 (up y)] w fun e w' => e = .returned (.int .i64 (up (x ||| y))) ∧ Below w.heap.size w w' := by
  have h := bel0 (pjoin_any (up x) (up y) w)
  rw [lp_up x hx, lp_up y hy] at h
  exact h
theorem pmeetB (x y : BitVec 3) (w : World) (hx : x &&& 3 = x) (hy : y &&& 3 = y) : Calls Tryd.prog 68 #[.int .i64 (up x), .int .i64 (up y)] w fun e w' => e = .returned (.int .i64 (up (x &&& y))) ∧ Below w.heap.size w w' := by
  have h := bel0 (pmeet_any (up x) (up y) w)
  rw [lp_up x hx, lp_up y hy] at h
  exact h
theorem pwithinB (x y : BitVec 3) (w : World) (hx : x &&& 3 = x) (hy : y &&& 3 = y) : Calls Tryd.prog 48 #[.int .i64 (up x), .int .i64 (up y)] w fun e w' => e = .returned (.bool (withinS x y)) ∧ Below w.heap.size w w' := by
  have h := bel0 (pwithin_any (up x) (up y) w)
  rw [lp_up x hx, lp_up y hy] at h
  exact h
end Go.Proofs.YthiacdbjlkpfgaaDoor
