import Derived.Test.YtidhcmhheohciaaDoorG00
import Derived.Lib.ItoaWalk
namespace Go.Proofs.YtidhcmhheohciaaDoor
open Go.RowKit
/-- those of a .. a + n - 1 of which h is so -/
def setF (h : Nat → Bool) : Nat → Nat → List Int
  | _, 0 => []
  | a, n + 1 => if h a = true then (a : Int) :: setF h (a + 1) n else setF h (a + 1) n
theorem setF_succ (h : Nat → Bool) (n : Nat) : ∀ a, setF h a (n + 1) = setF h a n ++ (if h (a + n) = true then [((a + n : Nat) : Int)] else []) := by
  induction n with
  | zero => intro a; simp [setF]
  | succ n ih =>
    intro a
    rw [setF, ih (a + 1), setF]
    rw [show a + 1 + n = a + (n + 1) by omega]
    split <;> simp
theorem setL_eq (n : Nat) (raw : List Int) (k : Nat) : setL n raw k = setF (hit n raw) 0 k := by
  induction k with
  | zero => rfl
  | succ k ih => rw [setL, ih, setF_succ]; simp
theorem setF_ge (h : Nat → Bool) (n : Nat) : ∀ a, ∀ y ∈ setF h a n, (a : Int) ≤ y ∧ y < a + n := by
  induction n with
  | zero => intro a y hy; simp [setF] at hy
  | succ n ih =>
    intro a y hy
    rw [setF] at hy
    split at hy
    · rcases List.mem_cons.1 hy with rfl | hy
      · omega
      · have := ih (a + 1) y hy; omega
    · have := ih (a + 1) y hy; omega
theorem setF_gt (h : Nat → Bool) (n a : Nat) : ∀ y ∈ setF h (a + 1) n, (a : Int) < y := fun y hy => by
  have := setF_ge h n (a + 1) y hy; omega
theorem setF_len (h : Nat → Bool) (n : Nat) : ∀ a, (setF h a n).length ≤ n := by
  induction n with
  | zero => intro a; simp [setF]
  | succ n ih => intro a; rw [setF]; have := ih (a + 1); split <;> simp <;> omega
theorem setF_app (h : Nat → Bool) (m : Nat) : ∀ n a, setF h a (n + m) = setF h a n ++ setF h (a + n) m := by
  induction m with
  | zero => intro n a; simp [setF]
  | succ m ih => intro n a; rw [show n + (m + 1) = (n + m) + 1 by omega, setF_succ, ih, setF_succ, show a + (n + m) = a + n + m by omega, List.append_assoc]
theorem uni_front {x : Int} {S T : List Int} (h : ∀ y ∈ T, x < y) : uniL (x :: S) T = x :: uniL S T := by
  cases T with
  | nil => rw [uniL_nil, uniL_nil]
  | cons y t => rw [uniL, if_pos (h y (by simp))]
theorem uni_back {x : Int} {S T : List Int} (h : ∀ y ∈ S, x < y) : uniL S (x :: T) = x :: uniL S T := by
  cases S with
  | nil => simp [uniL]
  | cons y t =>
    have := h y (by simp)
    rw [uniL, if_neg (by omega), if_pos this]
theorem uni_set (f g : Nat → Bool) (n : Nat) : ∀ a, uniL (setF f a n) (setF g a n) = setF (fun k => f k || g k) a n := by
  induction n with
  | zero => intro a; simp [setF, uniL]
  | succ n ih =>
    intro a
    have i1 := ih (a + 1)
    rw [setF, setF, setF]
    cases hf : f a <;> cases hg : g a
    · simpa using i1
    · simp only [Bool.false_or, if_true, Bool.false_eq_true, if_false]
      rw [uni_back (setF_gt f n a), i1]
    · simp only [Bool.true_or, if_true, Bool.false_eq_true, if_false]
      rw [uni_front (setF_gt g n a), i1]
    · simp only [Bool.true_or, if_true]
      rw [uniL, if_neg (by omega), if_neg (by omega), i1]
theorem drop_gt {x : Int} {T : List Int} (h : ∀ y ∈ T, x < y) : T.dropWhile (fun y => decide (y < x)) = T := by
  cases T with
  | nil => rfl
  | cons y t => exact List.dropWhile_cons_of_neg (by have := h y (by simp); simp; omega)
theorem min_front {x : Int} {S T : List Int} (h : ∀ y ∈ T, x < y) : minL (x :: S) T = x :: minL S T := by
  rw [minL, drop_gt h]
  cases T with
  | nil => rfl
  | cons y t =>
    have := h y (by simp)
    show (if y = x then _ else _) = _
    rw [if_neg (by omega)]
theorem min_back {x : Int} {S T : List Int} (h : ∀ y ∈ S, x < y) : minL S (x :: T) = minL S T := by
  cases S with
  | nil => rfl
  | cons y t =>
    have := h y (by simp)
    rw [minL, minL, List.dropWhile_cons_of_pos (by simpa using this)]
theorem min_set (f g : Nat → Bool) (n : Nat) : ∀ a, minL (setF f a n) (setF g a n) = setF (fun k => f k && !g k) a n := by
  induction n with
  | zero => intro a; rfl
  | succ n ih =>
    intro a
    have i1 := ih (a + 1)
    rw [setF, setF, setF]
    cases hf : f a <;> cases hg : g a
    · simpa using i1
    · simp only [Bool.false_and, if_true, Bool.false_eq_true, if_false]
      rw [min_back (setF_gt f n a), i1]
    · simp only [Bool.not_false, Bool.and_self, if_true, Bool.false_eq_true, if_false]
      rw [min_front (setF_gt g n a), i1]
    · simp only [Bool.not_true, Bool.and_false, if_true, Bool.false_eq_true, if_false]
      rw [minL, List.dropWhile_cons_of_neg (by simp)]
      show (if (a : Int) = a then _ else _) = _
      rw [if_pos rfl, min_back (setF_gt f n a), i1]
theorem wi_front {x : Int} {S T : List Int} (h : ∀ y ∈ T, x < y) : wiL (x :: S) T = false := by
  rw [wiL, drop_gt h]
  cases T with
  | nil => rfl
  | cons y t =>
    have := h y (by simp)
    show (if y = x then _ else _) = _
    rw [if_neg (by omega)]
theorem wi_back {x : Int} {S T : List Int} (h : ∀ y ∈ S, x < y) : wiL S (x :: T) = wiL S T := by
  cases S with
  | nil => rfl
  | cons y t =>
    have := h y (by simp)
    rw [wiL, wiL, List.dropWhile_cons_of_pos (by simpa using this)]
/-- of all of a .. a + n - 1 -/
def allF (h : Nat → Bool) : Nat → Nat → Bool
  | _, 0 => true
  | a, n + 1 => h a && allF h (a + 1) n
theorem allF_succ (h : Nat → Bool) (n : Nat) : ∀ a, allF h a (n + 1) = (allF h a n && h (a + n)) := by
  induction n with
  | zero => intro a; simp [allF]
  | succ n ih => intro a; rw [allF, ih (a + 1), allF, show a + 1 + n = a + (n + 1) by omega, Bool.and_assoc]
theorem wi_set (f g : Nat → Bool) (n : Nat) : ∀ a, wiL (setF f a n) (setF g a n) = allF (fun k => !f k || g k) a n := by
  induction n with
  | zero => intro a; rfl
  | succ n ih =>
    intro a
    have i1 := ih (a + 1)
    rw [setF, setF, allF]
    cases hf : f a <;> cases hg : g a
    · simpa using i1
    · simp only [Bool.not_false, Bool.true_or, Bool.true_and, if_true, Bool.false_eq_true, if_false]
      rw [wi_back (setF_gt f n a), i1]
    · simp only [Bool.not_true, Bool.or_self, Bool.false_and, if_true, Bool.false_eq_true, if_false]
      exact wi_front (setF_gt g n a)
    · simp only [Bool.or_true, Bool.true_and, if_true]
      rw [wiL, List.dropWhile_cons_of_neg (by simp)]
      show (if (a : Int) = a then _ else _) = _
      rw [if_pos rfl, wi_back (setF_gt f n a), i1]
theorem has_set (f : Nat → Bool) (n : Nat) : ∀ a k : Nat, a ≤ k → k < a + n → hasL (setF f a n) k = f k := by
  induction n with
  | zero => intro a k h1 h2; omega
  | succ n ih =>
    intro a k h1 h2
    rw [setF]
    by_cases e : k = a
    · subst e
      have hno : hasL (setF f (k + 1) n) k = false := by
        unfold hasL
        rw [List.any_eq_false]
        intro y hy
        have := setF_gt f n k y hy
        simp; omega
      cases hf : f k
      · simpa using hno
      · simp [hasL]
    · have := ih (a + 1) k (by omega) (by omega)
      split
      · unfold hasL at *
        rw [List.any_cons, this, show ((a : Int) == (k : Int)) = false from beq_eq_false_iff_ne.2 (by omega)]; rfl
      · exact this
theorem up_cons {x : Int} {S : List Int} (h : ∀ y ∈ S, x < y) (hu : Up S) : Up (x :: S) := by
  intro i j hij hj
  cases j with
  | zero => omega
  | succ j =>
    have hj' : j < S.length := by simpa using hj
    cases i with
    | zero =>
      have := h (S.getD j 0) (by simp [hj'])
      simpa using this
    | succ i =>
      have := hu i j (by omega) hj'
      simpa using this
theorem up_set (f : Nat → Bool) (n : Nat) : ∀ a, Up (setF f a n) := by
  induction n with
  | zero => intro a i j hij hj; simp [setF] at hj
  | succ n ih =>
    intro a
    rw [setF]
    split
    · exact up_cons (setF_gt f n a) (ih (a + 1))
    · exact ih (a + 1)
/-- at k the row goes on with k, if h is so -/
theorem set_at (h : Nat → Bool) (n k : Nat) (hk : k < n) (hh : h k = true) : (setF h 0 k).length < (setF h 0 n).length ∧ (setF h 0 n).getD (setF h 0 k).length 0 = (k : Int) ∧ (setF h 0 (k + 1)).length = (setF h 0 k).length + 1 := by
  obtain ⟨m, rfl⟩ : ∃ m, n = k + (m + 1) := ⟨n - k - 1, by omega⟩
  have e := setF_app h (m + 1) k 0
  have e2 : setF h (0 + k) (m + 1) = (k : Int) :: setF h (k + 1) m := by rw [setF]; simp [hh]
  rw [e2] at e
  refine ⟨by rw [e]; simp, by rw [e]; simp, ?_⟩
  rw [setF_succ]; simp [hh]
theorem set_no (h : Nat → Bool) (k : Nat) (hh : h k = false) : (setF h 0 (k + 1)).length = (setF h 0 k).length := by
  rw [setF_succ]; simp [hh]
end Go.Proofs.YtidhcmhheohciaaDoor
namespace Go.Proofs.YtidhcmhheohciaaDoor
open Go.RowKit
theorem bound_any (n : Int) (w : World) : Calls Tryd.prog 37 #[.int .i64 n] w fun e w' => w' = w ∧ e = .returned (.bool (decide (0 ≤ n) && decide (n ≤ 4096))) := by
  by_cases h0 : 0 ≤ n
  · go_enter Tryd.func37, Tryd.ntmps37
    go_wp2
    go_ret
    exact ⟨rfl, by simp [h0]⟩
  · have e : decide (0 ≤ n) = false := decide_eq_false h0
    rw [e]
    have h1 : n < 0 := by omega
    go_enter Tryd.func37, Tryd.ntmps37
    go_wp2
    go_ret
    exact ⟨rfl, by simp⟩
/-- numbers that rise, from least on, below n -/
def rightL (n : Int) : Int → List Int → Bool
  | _, [] => true
  | least, x :: t => if x < least ∨ n ≤ x then false else rightL n (x + 1) t
set_option maxRecDepth 100000 in
set_option maxHeartbeats 4000000 in
theorem right_any (n : Int) (xs : List Int) (a : Option Addr) (c : Nat) (w : World) (hr : Ri w a xs) (hc : xs.length ≤ 9223372036854775807) :
    Calls Tryd.prog 11 #[.int .i64 n, .slice a xs.length c] w fun e w' => w' = w ∧ e = .returned (.bool ((decide (0 ≤ n) && decide (n ≤ 4096)) && rightL n 0 xs)) := by
  have HR : Hid (Ri w a xs) := hr
  clear hr
  have hb := bound_any n w
  by_cases hn : 0 ≤ n ∧ n ≤ 4096
  · have e : (decide (0 ≤ n) && decide (n ≤ 4096)) = true := by simp [hn.1, hn.2]
    rw [e] at hb ⊢
    clear e
    obtain ⟨n0, n1⟩ := hn
    go_enter Tryd.func11, Tryd.ntmps11
    go_wp2_with (go_at_call 37; refine hb.mono ?_; rintro e w' ⟨h, rfl⟩; obtain rfl := h.symm)
    clear hb
    go_loop [5, 13] (fun s5 s13 => ∃ (k : Nat) (l : Int), s13 = .int .i64 k ∧ s5 = .int .i64 l ∧ k ≤ xs.length ∧ 0 ≤ l ∧ l ≤ 4096 ∧ Hid (rightL n l (xs.drop k) = rightL n 0 xs)) (fun _ s13 => xs.length - (intOf s13).toNat)
    case atStart => exact ⟨0, 0, rfl, rfl, Nat.zero_le _, by omega, by omega, rfl⟩
    case round =>
      obtain ⟨k, l, rfl, rfl, hk, l0, l1, h4⟩ := hrel
      by_cases hk2 : k = xs.length
      · subst hk2
        go_wp2
        go_ret
        refine ⟨rfl, ?_⟩
        rw [← h4.out]; simp [rightL]
      · have hlt : k < xs.length := by omega
        have hlt' : (k : Int) < xs.length := by omega
        obtain ⟨ab, ao, rfl, hcell⟩ := HR.out.at hlt
        have HD : Hid (rightL n 0 xs = if xs.getD k 0 < l ∨ n ≤ xs.getD k 0 then false else rightL n (xs.getD k 0 + 1) (xs.drop (k + 1))) := by
          unfold Hid
          rw [← h4.out, List.drop_eq_getElem_cons hlt, show xs[k] = xs.getD k 0 by simp [hlt]]
          rfl
        clear h4
        generalize xs.getD k 0 = x at *
        by_cases hx : x < l ∨ n ≤ x
        · have HN : Hid (rightL n 0 xs = false) := hide (HD.out.trans (if_pos hx))
          clear HD
          rcases hx with hx | hx
          · go_wp2
            go_ret
            exact ⟨rfl, by rw [HN.out]; rfl⟩
          · by_cases hx2 : x < l
            · go_wp2
              go_ret
              exact ⟨rfl, by rw [HN.out]; rfl⟩
            · go_wp2
              go_ret
              exact ⟨rfl, by rw [HN.out]; rfl⟩
        · have HN : Hid (rightL n 0 xs = rightL n (x + 1) (xs.drop (k + 1))) := hide (HD.out.trans (if_neg hx))
          have x0 : ¬ x < l := fun t => hx (Or.inl t)
          have x1 : ¬ n ≤ x := fun t => hx (Or.inr t)
          clear HD hx
          go_wp2
          exact ⟨⟨k + 1, x + 1, by simp, rfl, by omega, by omega, by omega, HN.out.symm⟩, by simp [intOf]; omega⟩
  · have e : (decide (0 ≤ n) && decide (n ≤ 4096)) = false := by
      rw [Bool.and_eq_false_iff, decide_eq_false_iff_not, decide_eq_false_iff_not]; omega
    rw [e] at hb ⊢
    clear e
    go_enter Tryd.func11, Tryd.ntmps11
    go_wp2_with (go_at_call 37; refine hb.mono ?_; rintro e w' ⟨h, rfl⟩; obtain rfl := h.symm)
    go_ret
    exact ⟨rfl, by simp⟩
theorem psize_any (n : Nat) (w : World) (hn : n ≤ 4096) : Calls Tryd.prog 41 #[.int .i64 n] w fun e w' => w' = w ∧ e = .returned (.int .i64 (((n + 7) / 8 : Nat) : Int)) := by
  go_enter Tryd.func41, Tryd.ntmps41
  go_wp2
  go_ret
  exact ⟨rfl, by congr 1⟩
end Go.Proofs.YtidhcmhheohciaaDoor
namespace Go.Proofs.YtidhcmhheohciaaDoor
open Go.RowKit
/-- a slice of uint64s can be read -/
def Ru (w : World) (a : Option Addr) (xs : List Nat) : Prop := ∀ (i x : Nat), xs[i]? = some x → ∃ b o, a = some ⟨b, o, none⟩ ∧ w.cell? ⟨b, o + i, none⟩ = some (.int .u64 (x : Int))
theorem Ru.at {w : World} {a : Option Addr} {xs : List Nat} (h : Ru w a xs) {i : Nat} (hi : i < xs.length) : ∃ b o, a = some ⟨b, o, none⟩ ∧ w.cell? ⟨b, o + i, none⟩ = some (.int .u64 ((xs.getD i 0 : Nat) : Int)) := by
  obtain ⟨b, o, e, hc⟩ := h i (xs.getD i 0) (by simp [hi])
  exact ⟨b, o, e, hc⟩
/-- how many bytes a number has -/
def lebN : Nat → Nat → Nat
  | 0, _ => 1
  | f + 1, m => if m < 128 then 1 else lebN f (m / 128) + 1
def lebL (xs : List Nat) : Nat := (xs.map (lebN 10)).foldr (· + ·) 0
theorem lebN_le (f : Nat) : ∀ m, lebN f m ≤ f + 1 := by
  induction f with
  | zero => intro m; simp [lebN]
  | succ f ih => intro m; rw [lebN]; split; omega; have := ih (m / 128); omega
set_option maxRecDepth 100000 in
set_option maxHeartbeats 4000000 in
theorem width_any (xs : List Nat) (a : Option Addr) (c : Nat) (w : World) (hr : Ru w a xs) (hc : xs.length ≤ 100000) (hx : ∀ x ∈ xs, x < 18446744073709551616) :
    Calls Tryd.prog 42 #[.slice a xs.length c] w fun e w' => w' = w ∧ e = .returned (.int .i64 (lebL xs : Nat)) := by
  have HR : Hid (Ru w a xs) := hr
  have HX : Hid (∀ x ∈ xs, x < 18446744073709551616) := hx
  clear hr hx
  go_enter Tryd.func42, Tryd.ntmps42
  go_wp2_with fail
  go_loop [3, 8] (fun s3 s8 => ∃ (k s : Nat), s8 = .int .i64 k ∧ s3 = .int .i64 s ∧ k ≤ xs.length ∧ s ≤ 11 * k ∧ Hid (s + lebL (xs.drop k) = lebL xs)) (fun _ s8 => xs.length - (intOf s8).toNat)
  case atStart => exact ⟨0, 0, rfl, rfl, Nat.zero_le _, Nat.le_refl _, by unfold Hid; simp⟩
  case round =>
    obtain ⟨k, s, rfl, rfl, hk, hs, h4⟩ := hrel
    by_cases hk2 : k = xs.length
    · subst hk2
      go_wp2
      go_ret
      refine ⟨rfl, ?_⟩
      rw [← h4.out]; simp [lebL]
    · have hlt : k < xs.length := by omega
      have hlt' : (k : Int) < xs.length := by omega
      obtain ⟨ab, ao, rfl, hcell⟩ := HR.out.at hlt
      have hm := hide (HX.out (xs.getD k 0) (by simp [hlt]))
      have HD : Hid (s + (lebN 10 (xs.getD k 0) + lebL (xs.drop (k + 1))) = lebL xs) := by
        unfold Hid
        rw [← h4.out, List.drop_eq_getElem_cons hlt, show xs[k] = xs.getD k 0 by simp [hlt]]
        rfl
      have hle := lebN_le 10 (xs.getD k 0)
      clear h4
      generalize xs.getD k 0 = m at *
      go_wp2_with fail
      go_loop [3, 5] (fun s3 s5 => ∃ (f m' t : Nat), s5 = .int .u64 m' ∧ s3 = .int .i64 t ∧ f ≤ 10 ∧ t + f ≤ s + 11 ∧ Hid (m' < 18446744073709551616 ∧ m' < 128 ^ f ∧ t + lebN f m' = s + 1 + lebN 10 m)) (fun _ s5 => (intOf s5).toNat)
      case atStart => exact ⟨10, m, s + 1, rfl, by simp, by omega, by omega, ⟨hm.out, by have := hm.out; omega, by omega⟩⟩
      case round =>
        obtain ⟨f, m', t, rfl, rfl, hf, ht, h5⟩ := hrel
        by_cases h128 : m' < 128
        · have e1 : lebN f m' = 1 := by
            cases f with
            | zero => rfl
            | succ f => rw [lebN, if_pos h128]
          have HN : Hid (t = s + lebN 10 m) := hide (by have := h5.out.2.2; omega)
          have h128' : ¬ (128 : Int) ≤ (m' : Int) := by omega
          clear h5 e1
          go_wp2
          exact ⟨⟨k + 1, t, by simp, rfl, by omega, by omega, by have h6 := HD.out; have h7 := HN.out; unfold Hid; omega⟩, by simp [intOf]; omega⟩
        · have h128' : (128 : Int) ≤ (m' : Int) := by omega
          cases f with
          | zero => exact absurd h5.out.2.1 (by omega)
          | succ f =>
            have HN : Hid (m' / 128 < 18446744073709551616 ∧ m' / 128 < 128 ^ f ∧ t + 1 + lebN f (m' / 128) = s + 1 + lebN 10 m) := by
              obtain ⟨y1, y2, y3⟩ := h5.out
              rw [lebN, if_neg h128] at y3
              refine ⟨by omega, ?_, by omega⟩
              rw [Nat.pow_succ] at y2
              exact Nat.div_lt_of_lt_mul (by rw [Nat.mul_comm]; exact y2)
            clear h5
            go_wp2
            exact ⟨⟨f, m' / 128, t + 1, by simp, by simp, by omega, by omega, HN⟩, by simp [intOf]; omega⟩
end Go.Proofs.YtidhcmhheohciaaDoor
namespace Go.Proofs.YtidhcmhheohciaaDoor
open Go.RowKit
def U64 (ps : List Nat) : List Value := ps.map fun n : Nat => Value.int .u64 (n : Int)
theorem info44p : (Tryd.prog.info? 44).map (fun i => (i.zero, i.size, i.bytes)) = some (some (.int .u64 0), 1, 8) := by kernel_rfl
/-- a row of uint64s of the call's own, and all else as it was -/
structure Sv (w0 wr : World) (v : Value) (ps : List Nat) : Prop where
  own : wr.ownsRow w0.heap.size 44 1 v ps.length (U64 ps)
  bel : Below w0.heap.size w0 wr
theorem Sv.slice {w0 wr : World} {v : Value} {ps : List Nat} (h : Sv w0 wr v ps) : ∃ a c, v = .slice a ps.length c := by
  rcases h.own.2 with ⟨rfl, h2⟩ | ⟨g, cap, cur, rfl, _⟩
  · exact ⟨none, 0, by rw [h2]⟩
  · exact ⟨_, _, rfl⟩
theorem Sv.one (w0 : World) (n : Nat) : Sv w0 (w0.alloc (.cells #[.int .u64 (n : Int)] 44)) (.slice (some ⟨w0.heap.size, 0, none⟩) 1 1) [n] := by
  refine ⟨⟨by simp [U64], Or.inr ⟨w0.heap.size, 1, #[.int .u64 (n : Int)], rfl, Nat.le_refl _, ?_, Nat.le_refl _, by unfold maxLen; omega, rfl, rfl⟩⟩, (Below.refl _ _).alloc (Nat.le_refl _) _⟩
  show (w0.heap.push _)[w0.heap.size]? = _
  simp
theorem Sv.drewN {w0 wr : World} {v : Value} {ps : List Nat} (h : Sv w0 wr v ps) (j : Nat) : Sv w0 (wr.drewN j) v ps := ⟨h.own, below_drewN h.bel j⟩
theorem Sv.ru {w0 wr : World} {a : Option Addr} {n c : Nat} {ps : List Nat} (h : Sv w0 wr (.slice a n c) ps) : Ru wr a ps := by
  intro i x hx
  rcases h.own.2 with ⟨h1, h2⟩ | ⟨g, cap, cur, h1, h3, h4, h5, h6, h7, h8⟩
  · have : ps = [] := List.length_eq_zero_iff.1 h2
    subst this; simp at hx
  · simp only [Value.slice.injEq] at h1
    obtain ⟨rfl, -, rfl⟩ := h1
    refine ⟨g, 0, rfl, ?_⟩
    have hc := h.own.cells (g := g) rfl i (.int .u64 (x : Int)) (by unfold U64; rw [List.getElem?_map, hx]; rfl)
    have e : (⟨g, 0, none⟩ : Addr).add i = ⟨g, 0 + i, none⟩ := by
      unfold Addr.add
      split
      · rename_i hj0; rw [hj0]
      · simp
    rw [e] at hc
    exact hc
/-- one number more -/
theorem wpList_app6 {ops : Array Oper} {rest : List Oper} {o : Oper} {a : Act} {Q : Exit → Act → World → Prop} (w0 w1 : World) (hgd : o.guard = none) (s x : Operand)
    (ho : o.op = .call { callee := .builtin .append, args := #[s, x], argTypes := #[59, 59] })
    (v : Value) (ps : List Nat) (n : Nat) (m : Int) (hm : (n : Int) = m) (hS : Sv w0 w1 v ps) (hs : a.eval s = v) (hx : a.eval x = .slice (some ⟨w1.heap.size, 0, none⟩) 1 1) (hl : ps.length ≤ 1000000)
    (h : ∀ a' c' w', Sv w0 w' (.slice a' (ps.length + 1) c') (ps ++ [n]) → wpList Tryd.prog ops Q rest (a.put o.dst (.slice a' (ps.length + 1) c')) w') : wpList Tryd.prog ops Q (o :: rest) a (w1.alloc (.cells #[.int .u64 m] 44)) := by
  subst hm
  obtain ⟨i0, hi, hz0, hz1, hz2⟩ := info_parts info44p
  refine wpList_append_own _ hgd s x 59 ho w0.heap.size 44 i0 (.int .u64 0) 1 8 Tryd.underlying59 hi hz0 hz1 hz2 rfl (by decide) v ps.length (U64 ps) hs (hS.own.alloc _) ⟨w1.heap.size, 0, none⟩ 1 1 [.int .u64 (n : Int)] hx rfl ?_ ?_ ?_ ?_ ?_ ?_
  · intro j u hj
    cases j with
    | zero => simp at hj; subst hj; simp [Addr.add]
    | succ j => simp at hj
  · intro u hu; simp at hu; subst hu; rfl
  · unfold maxLen; omega
  · omega
  · have := hS.bel.size; simp; omega
  · intro v' w' hown hgrow _
    have hB := hS.bel.size
    have hT : Sv w0 w' v' (ps ++ [n]) := by
      refine ⟨?_, ((hS.bel.alloc (by omega) _)).grown hgrow (by simp; omega) (fun k hk => ((hS.own.lt k hk).1))⟩
      have e : U64 (ps ++ [n]) = U64 ps ++ [.int .u64 (n : Int)] := by simp [U64]
      rw [e]
      simpa using hown
    obtain ⟨a', c', rfl⟩ := hT.slice
    simp only [List.length_append, List.length_cons, List.length_nil, Nat.zero_add] at hT ⊢
    exact h a' c' w' hT
/-- the gaps of numbers that rise -/
def gapL : Int → List Int → List Nat
  | _, [] => []
  | l, x :: t => (x - l).toNat :: gapL (x + 1) t
set_option maxRecDepth 100000 in
set_option maxHeartbeats 4000000 in
theorem gaps_any (n : Int) (xs : List Int) (a : Option Addr) (c : Nat) (w : World) (hr : Ri w a xs) (hc : xs.length ≤ 100000) (hn : n ≤ 4096) (hR : rightL n 0 xs = true) :
    Calls Tryd.prog 35 #[.slice a xs.length c] w fun e w' => ∃ a' c', e = .returned (.slice a' (xs.length :: gapL 0 xs).length c') ∧ Sv w w' (.slice a' (xs.length :: gapL 0 xs).length c') (xs.length :: gapL 0 xs) := by
  have HR : Hid (Ri w a xs) := hr
  have HG : Hid (rightL n 0 xs = true) := hR
  clear hr hR
  go_enter Tryd.func35, Tryd.ntmps35
  go_wp2_with fail
  go_loopw [3, 4, 13] (fun s3 s4 s13 wr => ∃ (k : Nat) (l : Int) (ps : List Nat), s13 = .int .i64 k ∧ s4 = .int .i64 l ∧ k ≤ xs.length ∧ ps.length ≤ k + 1 ∧ 0 ≤ l ∧ l ≤ 4096 ∧ Hid (rightL n l (xs.drop k) = true ∧ Sv w wr s3 ps ∧ ps ++ gapL l (xs.drop k) = xs.length :: gapL 0 xs)) (fun _ _ s13 _ => xs.length - (intOf s13).toNat)
  case atStart => exact ⟨0, 0, [xs.length], rfl, rfl, Nat.zero_le _, by simp, by omega, by omega, ⟨HG.out, by simpa using Sv.one w xs.length, by simp⟩⟩
  case round =>
    obtain ⟨k, l, ps, rfl, rfl, hk, hp, l0, l1, h4⟩ := hrel
    obtain ⟨a5, c5, rfl⟩ := h4.out.2.1.slice
    by_cases hk2 : k = xs.length
    · subst hk2
      go_wp2
      go_ret
      have e : ps = xs.length :: gapL 0 xs := by have := h4.out.2.2; rw [List.drop_of_length_le (Nat.le_refl _)] at this; simpa [gapL] using this
      rw [show (gapL 0 xs).length + 1 = ps.length by rw [e]; rfl, ← e]
      exact ⟨a5, c5, rfl, h4.out.2.1⟩
    · have hlt : k < xs.length := by omega
      have hlt' : (k : Int) < xs.length := by omega
      have HRr : Hid (Ri wr a xs) := HR.out.keep' h4.out.2.1.bel
      obtain ⟨ab, ao, rfl, hcell⟩ := HRr.out.at hlt
      have HD : Hid (xs.drop k = xs.getD k 0 :: xs.drop (k + 1)) := by
        unfold Hid
        rw [List.drop_eq_getElem_cons hlt]; simp [hlt]
      generalize xs.getD k 0 = x at *
      have HST : Hid (Sv w wr (.slice a5 ps.length c5) ps) := h4.out.2.1
      obtain ⟨x0, x1, HG2⟩ : l ≤ x ∧ x < n ∧ Hid (rightL n (x + 1) (xs.drop (k + 1)) = true) := by
        have t := h4.out.1
        rw [HD.out, rightL] at t
        split at t
        · exact absurd t (by simp)
        · exact ⟨by omega, by omega, t⟩
      have HN : Hid ((ps ++ [(x - l).toNat]) ++ gapL (x + 1) (xs.drop (k + 1)) = xs.length :: gapL 0 xs) := by
        have t := h4.out.2.2
        rw [HD.out, gapL] at t
        unfold Hid
        simpa using t
      have hp2 : ps.length ≤ 1000000 := by omega
      have hd : ((x - l).toNat : Int) = x - l := by omega
      clear HD h4
      generalize (x - l).toNat = d at *
      go_wp2_with (at_builtin; refine wpList_app6 w wr rfl (.tmp 17) (.tmp 22) rfl _ ps d _ hd HST.out rfl rfl hp2 ?_; intro a2 c2 w2 hS2; replace hS2 := (hide hS2))
      go_round
      case rel => exact ⟨k + 1, x + 1, ps ++ [d], by simp, rfl, by omega, by simp; omega, by omega, by omega, ⟨HG2.out, by simpa using hS2.out, HN.out⟩⟩
      case measure => simp [intOf]; omega
end Go.Proofs.YtidhcmhheohciaaDoor
namespace Go.Proofs.YtidhcmhheohciaaDoor
open Go.RowKit
/-- how many numbers, from y on, stand side by side -/
def runL : Int → List Int → Nat
  | _, [] => 0
  | y, z :: t => if z = y then runL (y + 1) t + 1 else 0
theorem runL_le (t : List Int) : ∀ y, runL y t ≤ t.length := by
  induction t with
  | nil => intro y; simp [runL]
  | cons z t ih =>
    intro y
    rw [runL]
    split
    · have := ih (y + 1); simp; omega
    · simp
set_option maxRecDepth 100000 in
set_option maxHeartbeats 4000000 in
theorem run_any (xs : List Int) (x : Int) (a : Option Addr) (c : Nat) (w : World) (hr : Ri w a xs) (hc : xs.length ≤ 100000) (he : xs.head? = some x) (hx0 : 0 ≤ x) (hx1 : x ≤ 4096) :
    Calls Tryd.prog 53 #[.slice a xs.length c] w fun e w' => (∃ n, w' = w.drewN n) ∧ e = .returned (.int .i64 ((runL (x + 1) (xs.drop 1) + 1 : Nat) : Int)) := by
  have HR : Hid (Ri w a xs) := hr
  clear hr
  obtain ⟨t, rfl⟩ : ∃ t, xs = x :: t := by
    cases xs with
    | nil => simp at he
    | cons y t => simp at he; exact ⟨t, by rw [he]⟩
  obtain ⟨ab, ao, rfl, hcell0⟩ := HR.out.at (i := 0) (by simp)
  rw [Nat.add_zero, show (x :: t).getD 0 0 = x from rfl] at hcell0
  have HL : 1 ≤ (x :: t).length := by simp
  have HT : Hid ((x :: t).drop 1 = t) := rfl
  generalize hxs : x :: t = xs at *
  rw [HT.out]
  clear he hxs
  go_enter Tryd.func53, Tryd.ntmps53
  go_wp2_with fail
  go_loopw [3] (fun s3 wr => ∃ (k n : Nat), wr = w.drewN n ∧ s3 = .int .i64 (k : Int) ∧ 1 ≤ k ∧ k ≤ xs.length ∧ Hid (k + runL (x + k) (xs.drop k) = runL (x + 1) t + 1)) (fun s3 _ => xs.length - (intOf s3).toNat)
  case atStart => exact ⟨1, 0, rfl, rfl, Nat.le_refl _, HL, by unfold Hid; rw [HT.out]; simp; omega⟩
  case round =>
    obtain ⟨k, n, rfl, rfl, hk1, hk, h4⟩ := hrel
    by_cases hk2 : k = xs.length
    · subst hk2
      have HN : Hid (((runL (x + 1) t + 1 : Nat) : Int) = xs.length) := by
        unfold Hid
        rw [← h4.out]; simp [runL]
      clear h4
      go_wp2
      go_quiet (fail)
      go_wp2
      go_ret
      refine ⟨⟨n + nq, by simp⟩, ?_⟩
      rw [HN.out]; rfl
    · have hlt : k < xs.length := by omega
      have hlt' : (k : Int) < xs.length := by omega
      have hcell : w.cell? ⟨ab, ao + k, none⟩ = some (.int .i64 (xs.getD k 0)) := by
        obtain ⟨b2, o2, e, h⟩ := HR.out.at hlt
        simp only [Option.some.injEq, Addr.mk.injEq] at e
        obtain ⟨rfl, rfl, -⟩ := e
        exact h
      have HD : Hid (runL (x + 1) t + 1 = k + if xs.getD k 0 = x + k then runL (x + k + 1) (xs.drop (k + 1)) + 1 else 0) := by
        unfold Hid
        rw [← h4.out, List.drop_eq_getElem_cons hlt, show xs[k] = xs.getD k 0 by simp [hlt]]
        rfl
      have h0' : (0 : Int) < xs.length := by omega
      have h0 : 0 < xs.length := by omega
      clear h4
      generalize xs.getD k 0 = y at *
      by_cases hy : y = x + (k : Int)
      · have HN : Hid (k + 1 + runL (x + ((k + 1 : Nat) : Int)) (xs.drop (k + 1)) = runL (x + 1) t + 1) := by
          unfold Hid
          have e := HD.out
          rw [if_pos hy] at e
          rw [e, show x + ((k + 1 : Nat) : Int) = x + (k : Int) + 1 by omega]; omega
        clear HD
        have hyb : (y == x + (k : Int)) = true := by simpa using hy
        go_wp2
        go_quiet (fail)
        go_wp2
        exact ⟨⟨k + 1, n + nq, by simp, by simp, by omega, by omega, HN⟩, by simp [intOf]; omega⟩
      · have HN : Hid (((runL (x + 1) t + 1 : Nat) : Int) = k) := by
          unfold Hid
          have e := HD.out
          rw [if_neg hy] at e
          rw [e]; simp
        clear HD
        have hyb : (y == x + (k : Int)) = false := beq_eq_false_iff_ne.2 hy
        go_wp2
        go_quiet (fail)
        go_wp2
        go_ret
        exact ⟨⟨n + nq, by simp⟩, by rw [HN.out]; rfl⟩
end Go.Proofs.YtidhcmhheohciaaDoor
namespace Go.Proofs.YtidhcmhheohciaaDoor
open Go.RowKit
/-- two numbers more -/
theorem wpList_app7 {ops : Array Oper} {rest : List Oper} {o : Oper} {a : Act} {Q : Exit → Act → World → Prop} (w0 w1 : World) (hgd : o.guard = none) (s x : Operand)
    (ho : o.op = .call { callee := .builtin .append, args := #[s, x], argTypes := #[59, 59] })
    (v : Value) (ps : List Nat) (n k : Nat) (m l : Int) (hm : (n : Int) = m) (hk : (k : Int) = l) (hS : Sv w0 w1 v ps) (hs : a.eval s = v) (hx : a.eval x = .slice (some ⟨w1.heap.size, 0, none⟩) 2 2) (hl : ps.length ≤ 1000000)
    (h : ∀ a' c' w', Sv w0 w' (.slice a' (ps.length + 2) c') (ps ++ [n, k]) → wpList Tryd.prog ops Q rest (a.put o.dst (.slice a' (ps.length + 2) c')) w') : wpList Tryd.prog ops Q (o :: rest) a (w1.alloc (.cells #[.int .u64 m, .int .u64 l] 44)) := by
  subst hm hk
  obtain ⟨i0, hi, hz0, hz1, hz2⟩ := info_parts info44p
  refine wpList_append_own _ hgd s x 59 ho w0.heap.size 44 i0 (.int .u64 0) 1 8 Tryd.underlying59 hi hz0 hz1 hz2 rfl (by decide) v ps.length (U64 ps) hs (hS.own.alloc _) ⟨w1.heap.size, 0, none⟩ 2 2 [.int .u64 (n : Int), .int .u64 (k : Int)] hx rfl ?_ ?_ ?_ ?_ ?_ ?_
  · intro j u hj
    match j, hj with
    | 0, hj => simp at hj; subst hj; simp [Addr.add]
    | 1, hj => simp at hj; subst hj; simp [Addr.add]
    | j + 2, hj => simp at hj
  · intro u hu; simp at hu; rcases hu with rfl | rfl <;> rfl
  · unfold maxLen; omega
  · omega
  · have := hS.bel.size; simp; omega
  · intro v' w' hown hgrow _
    have hB := hS.bel.size
    have hT : Sv w0 w' v' (ps ++ [n, k]) := by
      refine ⟨?_, ((hS.bel.alloc (by omega) _)).grown hgrow (by simp; omega) (fun k hk => ((hS.own.lt k hk).1))⟩
      have e : U64 (ps ++ [n, k]) = U64 ps ++ [.int .u64 (n : Int), .int .u64 (k : Int)] := by simp [U64]
      rw [e]
      simpa using hown
    obtain ⟨a', c', rfl⟩ := hT.slice
    simp only [List.length_append, List.length_cons, List.length_nil, Nat.zero_add, Nat.reduceAdd] at hT ⊢
    exact h a' c' w' hT
end Go.Proofs.YtidhcmhheohciaaDoor
namespace Go.Proofs.YtidhcmhheohciaaDoor
open Go.RowKit
/-- the first number, one more -/
theorem Sv.inc {w wr : World} {ps : List Nat} {p : Nat} {a5 : Option Addr} {c5 : Nat} (hS : Sv w wr (.slice a5 (ps.length + 1) c5) (p :: ps)) :
    ∃ g, a5 = some ⟨g, 0, none⟩ ∧ wr.cell? ⟨g, 0, none⟩ = some (.int .u64 (p : Int)) ∧ wr.frozen? ⟨g, 0, none⟩ = false ∧ w.heap.size ≤ g ∧ g < wr.heap.size ∧
      Sv w (wr.setCell ⟨g, 0, none⟩ (.int .u64 ((p : Int) + 1))) (.slice a5 (ps.length + 1) c5) ((p + 1) :: ps) := by
  have hru := hS.ru 0 p rfl
  obtain ⟨h1, h2⟩ := hS
  rcases h1.2 with ⟨h, h3⟩ | ⟨g, cap, cur, h, h3, h4, h5, h6, h7, h8⟩
  · simp at h3
  · simp only [Value.slice.injEq] at h
    obtain ⟨rfl, -, rfl⟩ := h
    obtain ⟨b, o, e, hc⟩ := hru
    simp only [Option.some.injEq, Addr.mk.injEq] at e
    obtain ⟨rfl, rfl, -⟩ := e
    have hlt : g < wr.heap.size := by
      rcases Nat.lt_or_ge g wr.heap.size with t | t
      · exact t
      · rw [Array.getElem?_eq_none t] at h4; exact absurd h4 (by simp)
    refine ⟨g, rfl, hc, ?_, h3, hlt, ⟨⟨by simp [U64], Or.inr ⟨g, c5, cur.setIfInBounds 0 (.int .u64 ((p : Int) + 1)), rfl, h3, ?_, h5, h6, by simpa using h7, ?_⟩⟩, h2.setCell h3 _⟩⟩
    · simp [World.frozen?, h4]
    · simp [World.setCell, Array.getElem?_modify, h4]
    · rw [Array.toList_setIfInBounds, List.take_set]
      have e2 : List.take (((p + 1) :: ps).length * 1) cur.toList = U64 (p :: ps) := h8
      rw [e2]
      simp [U64]
end Go.Proofs.YtidhcmhheohciaaDoor
namespace Go.Proofs.YtidhcmhheohciaaDoor
open Go.RowKit
/-- the runs of numbers that rise -/
def runsG : Nat → Int → List Int → List Nat
  | 0, _, _ => []
  | _ + 1, _, [] => []
  | f + 1, l, x :: t => (x - l).toNat :: runL (x + 1) t :: runsG f (x + (runL (x + 1) t + 1 : Nat) + 1) (t.drop (runL (x + 1) t))
theorem run_right (n : Int) (t : List Int) : ∀ y, rightL n y t = true → rightL n (y + (runL y t : Nat) + 1) (t.drop (runL y t)) = true := by
  induction t with
  | nil => intro y _; simp [rightL]
  | cons z t ih =>
    intro y h
    rw [rightL] at h
    split at h
    · exact absurd h (by simp)
    · rename_i hz
      by_cases e : z = y
      · subst e
        have h2 := ih (z + 1) h
        rw [show runL z (z :: t) = runL (z + 1) t + 1 by rw [runL, if_pos rfl]]
        rw [show z + ((runL (z + 1) t + 1 : Nat) : Int) + 1 = z + 1 + (runL (z + 1) t : Nat) + 1 by omega]
        exact h2
      · rw [show runL y (z :: t) = 0 by rw [runL, if_neg e]]
        rw [List.drop_zero, rightL, if_neg (by omega)]
        exact h
theorem Ri.dropn {w : World} {b o : Nat} {xs : List Int} (h : Ri w (Option.some ⟨b, o, none⟩) xs) (m : Nat) : Ri w (Option.some ⟨b, o + m, none⟩) (xs.drop m) := by
  intro i x hx
  rw [List.getElem?_drop] at hx
  obtain ⟨b2, o2, e, hc⟩ := h (m + i) x hx
  obtain ⟨rfl, rfl⟩ : b = b2 ∧ o = o2 := by simpa using e
  exact ⟨b, o + m, rfl, by rw [Nat.add_assoc]; exact hc⟩
set_option maxRecDepth 100000 in
set_option maxHeartbeats 4000000 in
theorem runs_any (n : Int) (xs : List Int) (a : Option Addr) (c : Nat) (w : World) (hr : Ri w a xs) (hc : xs.length ≤ 100000) (hcc : xs.length ≤ c) (hn : n ≤ 4096) (hR : rightL n 0 xs = true) :
    Calls Tryd.prog 36 #[.slice a xs.length c] w fun e w' => ∃ p a' c', (runsG xs.length 0 xs).length = 2 * p ∧ e = .returned (.slice a' ((runsG xs.length 0 xs).length + 1) c') ∧ Sv w w' (.slice a' ((runsG xs.length 0 xs).length + 1) c') (p :: runsG xs.length 0 xs) := by
  have HR : Hid (Ri w a xs) := hr
  have HG : Hid (rightL n 0 xs = true) := hR
  clear hr hR
  go_enter Tryd.func36, Tryd.ntmps36
  go_wp2_with fail
  go_loopw [0, 3, 4] (fun s0 s3 s4 wr => ∃ (f p : Nat) (l : Int) (b' : Option Addr) (zs : List Int) (d' : Nat) (ps : List Nat), s0 = .slice b' zs.length d' ∧ s4 = .int .i64 l ∧ zs.length ≤ f ∧ zs.length ≤ 100000 ∧ zs.length ≤ d' ∧ d' ≤ c ∧ ps.length = 2 * p ∧ p + zs.length ≤ 100000 ∧ 0 ≤ l ∧ l ≤ 200000 ∧ Hid (Su a xs b' zs ∧ rightL n l zs = true ∧ Sv w wr s3 (p :: ps) ∧ ps ++ runsG f l zs = runsG xs.length 0 xs)) (fun s0 _ _ _ => lenOf s0)
  case atStart => exact ⟨xs.length, 0, 0, a, xs, c, [], rfl, rfl, Nat.le_refl _, hc, hcc, Nat.le_refl _, rfl, by omega, by omega, by omega, ⟨fun _ h => h, HG.out, by simpa using Sv.one w 0, by simp⟩⟩
  case round =>
    obtain ⟨f, p, l, b', zs, d', ps, rfl, rfl, hf, hz, hd, hdc, hp, hpz, l0, l1, h4⟩ := hrel
    obtain ⟨a5, c5, rfl⟩ := h4.out.2.2.1.slice
    cases zs with
    | nil =>
      go_wp2
      go_ret
      have e : ps = runsG xs.length 0 xs := by
        have := h4.out.2.2.2
        cases f <;> simpa [runsG] using this
      rw [← e]
      exact ⟨p, a5, c5, hp, rfl, h4.out.2.2.1⟩
    | cons x t =>
      have hzb : Hid (Ri wr b' (x :: t)) := h4.out.1 _ (HR.out.keep' h4.out.2.2.1.bel)
      obtain ⟨b, o, rfl, -, -⟩ := hzb.out.head
      obtain ⟨x0, x1, HG2⟩ : l ≤ x ∧ x < n ∧ Hid (rightL n (x + 1) t = true) := by
        have q := h4.out.2.1
        rw [rightL] at q
        split at q
        · exact absurd q (by simp)
        · exact ⟨by omega, by omega, q⟩
      obtain ⟨f, rfl⟩ : ∃ g, f = g + 1 := ⟨f - 1, by simp at hf; omega⟩
      have HRR : Hid (rightL n (x + ((runL (x + 1) t + 1 : Nat) : Int) + 1) (t.drop (runL (x + 1) t)) = true) := by
        have q := run_right n t (x + 1) HG2.out
        unfold Hid
        rw [show x + ((runL (x + 1) t + 1 : Nat) : Int) + 1 = x + 1 + (runL (x + 1) t : Nat) + 1 by omega]
        exact q
      have HN : Hid ((ps ++ [(x - l).toNat, runL (x + 1) t]) ++ runsG f (x + ((runL (x + 1) t + 1 : Nat) : Int) + 1) (t.drop (runL (x + 1) t)) = runsG xs.length 0 xs) := by
        have q := h4.out.2.2.2
        rw [runsG] at q
        unfold Hid
        simpa using q
      have hrl := runL_le t (x + 1)
      have hC : Calls Tryd.prog 53 #[.slice (some ⟨b, o, none⟩) (t.length + 1) d'] wr fun e w' => (∃ j, w' = wr.drewN j) ∧ e = .returned (.int .i64 ((runL (x + 1) t + 1 : Nat) : Int)) := run_any (x :: t) x (some ⟨b, o, none⟩) d' wr hzb.out hz rfl (by omega) (by omega)
      have hdx : ((x - l).toNat : Int) = x - l := by omega
      generalize (x - l).toNat = dx at *
      generalize runL (x + 1) t = r at *
      have HSV : Hid (Sv w wr (.slice a5 (ps.length + 1) c5) (p :: ps)) := h4.out.2.2.1
      have HSU : Hid (Su a xs (some ⟨b, o, none⟩) (x :: t)) := h4.out.1
      clear h4 hzb HG2
      go_upto_region 5 with (go_at_call 53; refine hC.mono ?_; rintro e w1 ⟨⟨j, hj⟩, rfl⟩; replace hj := hide hj)
      have HS1 : Hid (Sv w w1 (.slice a5 (ps.length + 1) c5) (p :: ps)) := by rw [hj.out]; exact HSV.out.drewN j
      clear hj hC HSV
      obtain ⟨g, rfl, hg1, hg2, hg3, hg4, hg5⟩ := HS1.out.inc
      have HS2 := hide hg5
      clear hg5 HS1
      go_upto_region 6 with fail
      have HRw : Hid (Ri (w1.setCell ⟨g, 0, none⟩ (.int .u64 ((p : Int) + 1))) (some ⟨b, o, none⟩) (x :: t)) := HSU.out _ (HR.out.keep' HS2.out.bel)
      go_name_world W HW
      rw [HW] at HRw HS2
      clear HW hg1 hg2
      have hcell : W.cell? ⟨b, o, none⟩ = some (.int .i64 x) := by
        obtain ⟨b2, o2, e, h, -⟩ := HRw.out.head
        simp only [Option.some.injEq, Addr.mk.injEq] at e
        obtain ⟨rfl, rfl, -⟩ := e
        exact h
      have HS3 : Hid (Sv w W (.slice (some ⟨g, 0, none⟩) (2 * p + 1) c5) ((p + 1) :: ps)) := by rw [← hp]; exact HS2
      have hp2 : ((p + 1) :: ps).length ≤ 1000000 := by simp; omega
      have HCB : Hid (∀ w2, Below w.heap.size w w2 → w2.cell? ⟨b, o, none⟩ = some (.int .i64 x)) := fun w2 hb => by
        obtain ⟨b2, o2, e, h, -⟩ := (HSU.out _ (HR.out.keep' hb)).head
        simp only [Option.some.injEq, Addr.mk.injEq] at e
        obtain ⟨rfl, rfl, -⟩ := e
        exact h
      clear HS2 HRw
      have hwr : Hid ((r : Int) = IntKind.u64.wrap (wrap64 (r : Int))) := by
        unfold Hid
        have hrb : r ≤ 100000 := by simp at hz; omega
        rw [show wrap64 (r : Int) = r by unfold wrap64; omega, IntKind.wrap_u64]; omega
      go_upto_region 7 with (at_builtin; refine wpList_app7 w W rfl (.tmp 17) (.tmp 27) rfl _ _ dx r _ _ hdx hwr.out HS3.out rfl rfl hp2 ?_; intro a2 c2 w2 hS2; have hc2 := HCB.out w2 hS2.bel; replace hS2 := (hide hS2))
      have hrb : r ≤ 100000 := by simp at hz; omega
      have hri : (r : Int) ≤ t.length := by omega
      have hdi : (t.length : Int) + 1 ≤ d' := by simp at hd; omega
      clear hcell HS3 hwr
      go_wp2
      have hd2 : t.length + 1 ≤ d' := by simpa using hd
      have hf2 : t.length ≤ f := by simp at hf; omega
      have hz2 : t.length + 1 ≤ 100000 := by simpa using hz
      have hpz2 : p + (t.length + 1) ≤ 100000 := by simpa using hpz
      have el : (t.drop r).length = t.length - r := List.length_drop ..
      refine ⟨⟨f, p + 1, x + ((r + 1 : Nat) : Int) + 1, _, t.drop r, d' - (r + 1), ps ++ [dx, r], by rw [el], by congr 1, by omega, by omega, by omega, by omega, by simp; omega, by omega, by omega, by omega, ⟨?_, HRR.out, ?_, HN.out⟩⟩, by simp [lenOf]; omega⟩
      · intro w5 h5
        have q := Ri.dropn (HSU.out w5 h5) (r + 1)
        rw [List.drop_succ_cons] at q
        split
        · rename_i e
          have : t.drop r = [] := List.eq_nil_of_length_eq_zero (by omega)
          rw [this]; exact Ri.nil _ _
        · exact q
      · have q := hS2.out
        have e2 : ((p + 1) :: ps).length + 2 = 2 * p + 1 + 2 := by simp; omega
        rw [e2] at q
        exact q
end Go.Proofs.YtidhcmhheohciaaDoor
namespace Go.Proofs.YtidhcmhheohciaaDoor
open Go.RowKit
/-- how many bytes the ways have -/
def sizeL (n : Int) (xs : List Int) (way : Int) : Int :=
  if ((decide (0 ≤ n) && decide (n ≤ 4096)) && rightL n 0 xs) = true then
    if way = 0 then 1 + ((n.toNat + 7) / 8 : Nat)
    else if way = 1 then 1 + (lebL (xs.length :: gapL 0 xs) : Nat)
    else if way = 2 then 1 + (lebL ((runsG xs.length 0 xs).length / 2 :: runsG xs.length 0 xs) : Nat)
    else -1
  else -1
set_option maxRecDepth 100000 in
set_option maxHeartbeats 4000000 in
theorem size_no (n way : Int) (xs : List Int) (a : Option Addr) (c : Nat) (w : World) (hr : Ri w a xs) (hc : xs.length ≤ 100000) (hR : ((decide (0 ≤ n) && decide (n ≤ 4096)) && rightL n 0 xs) = false) :
    Calls Tryd.prog 16 #[.int .i64 n, .slice a xs.length c, .int .i64 way] w fun e w' => w' = w ∧ e = .returned (.int .i64 (-1)) := by
  have hq := right_any n xs a c w hr (by omega)
  rw [hR] at hq
  clear hR hr
  go_enter Tryd.func16, Tryd.ntmps16
  go_wp2_with (go_at_call 11; refine hq.mono ?_; rintro e w' ⟨h, rfl⟩; obtain rfl := h.symm)
  go_ret
  exact ⟨rfl, rfl⟩
end Go.Proofs.YtidhcmhheohciaaDoor
namespace Go.Proofs.YtidhcmhheohciaaDoor
open Go.RowKit
theorem gapL_len (xs : List Int) : ∀ l, (gapL l xs).length = xs.length := by
  induction xs with
  | nil => intro l; rfl
  | cons x t ih => intro l; simp [gapL, ih]
theorem gapL_lt (n : Int) (hn : n ≤ 4096) (xs : List Int) : ∀ l, 0 ≤ l → rightL n l xs = true → ∀ x ∈ gapL l xs, x < 18446744073709551616 := by
  induction xs with
  | nil => intro l _ _ x hx; simp [gapL] at hx
  | cons y t ih =>
    intro l hl h x hx
    rw [rightL] at h
    split at h
    · exact absurd h (by simp)
    · rw [gapL, List.mem_cons] at hx
      rcases hx with rfl | hx
      · omega
      · exact ih (y + 1) (by omega) h x hx
theorem runsG_len (f : Nat) : ∀ l xs, (runsG f l xs).length ≤ 2 * xs.length := by
  induction f with
  | zero => intro l xs; simp [runsG]
  | succ f ih =>
    intro l xs
    cases xs with
    | nil => simp [runsG]
    | cons x t =>
      rw [runsG]
      have := ih (x + (runL (x + 1) t + 1 : Nat) + 1) (t.drop (runL (x + 1) t))
      simp at this ⊢
      omega
theorem runsG_lt (n : Int) (hn : n ≤ 4096) (f : Nat) : ∀ l xs, 0 ≤ l → xs.length ≤ 100000 → rightL n l xs = true → ∀ x ∈ runsG f l xs, x < 18446744073709551616 := by
  induction f with
  | zero => intro l xs _ _ _ x hx; simp [runsG] at hx
  | succ f ih =>
    intro l xs hl hc h x hx
    cases xs with
    | nil => simp [runsG] at hx
    | cons y t =>
      rw [rightL] at h
      split at h
      · exact absurd h (by simp)
      · have hrl := runL_le t (y + 1)
        have hc2 : t.length + 1 ≤ 100000 := by simpa using hc
        rw [runsG, List.mem_cons, List.mem_cons] at hx
        rcases hx with rfl | rfl | hx
        · omega
        · omega
        · have q := run_right n t (y + 1) h
          rw [show y + 1 + ((runL (y + 1) t : Nat) : Int) + 1 = y + ((runL (y + 1) t + 1 : Nat) : Int) + 1 by omega] at q
          exact ih _ _ (by omega) (by simp; omega) q x hx
theorem lebL_le (ys : List Nat) : lebL ys ≤ 11 * ys.length := by
  induction ys with
  | nil => simp [lebL]
  | cons y t ih =>
    have := lebN_le 10 y
    unfold lebL at ih ⊢
    simp at ih ⊢
    omega
set_option maxRecDepth 100000 in
set_option maxHeartbeats 4000000 in
theorem size_gaps (n : Int) (xs : List Int) (a : Option Addr) (c : Nat) (w : World) (hr : Ri w a xs) (hc : xs.length ≤ 40000) (hn : n ≤ 4096) (h0 : 0 ≤ n) (hR : rightL n 0 xs = true) :
    Calls Tryd.prog 16 #[.int .i64 n, .slice a xs.length c, .int .i64 1] w fun e w' => Below w.heap.size w w' ∧ e = .returned (.int .i64 (1 + (lebL (xs.length :: gapL 0 xs) : Nat))) := by
  have hq := right_any n xs a c w hr (by omega)
  have hg := gaps_any n xs a c w hr (by omega) hn hR
  have e : ((decide (0 ≤ n) && decide (n ≤ 4096)) && rightL n 0 xs) = true := by simp [hn, h0, hR]
  rw [e] at hq
  have hw := fun a' c' w' (h : Ru w' a' (xs.length :: gapL 0 xs)) => width_any (xs.length :: gapL 0 xs) a' c' w' h (by simp [gapL_len]; omega) (by
    intro x hx
    rcases List.mem_cons.1 hx with rfl | hx
    · omega
    · exact gapL_lt n hn xs 0 (Int.le_refl _) hR x hx)
  have hb : lebL (xs.length :: gapL 0 xs) ≤ 11 * (xs.length + 1) := by
    have q := lebL_le (xs.length :: gapL 0 xs)
    simpa [gapL_len] using q
  clear hr hR e
  generalize xs.length :: gapL 0 xs = gs at *
  generalize lebL gs = q at *
  go_enter Tryd.func16, Tryd.ntmps16
  go_wp2_with first | (go_at_call 11; refine hq.mono ?_; rintro e w' ⟨h, rfl⟩; obtain rfl := h.symm) | (go_at_call 35; refine hg.mono ?_; rintro e w1 ⟨a1, c1, rfl, hS⟩; have hw1 := hw a1 c1 w1 hS.ru; replace hS := hide hS) | (go_at_call 42; refine hw1.mono ?_; rintro e w' ⟨h, rfl⟩; obtain rfl := h.symm)
  go_ret
  exact ⟨hS.out.bel, rfl⟩
set_option maxRecDepth 100000 in
set_option maxHeartbeats 4000000 in
theorem size_runs (n : Int) (xs : List Int) (a : Option Addr) (c : Nat) (w : World) (hr : Ri w a xs) (hc : xs.length ≤ 40000) (hcc : xs.length ≤ c) (hn : n ≤ 4096) (h0 : 0 ≤ n) (hR : rightL n 0 xs = true) :
    Calls Tryd.prog 16 #[.int .i64 n, .slice a xs.length c, .int .i64 2] w fun e w' => Below w.heap.size w w' ∧ e = .returned (.int .i64 (1 + (lebL ((runsG xs.length 0 xs).length / 2 :: runsG xs.length 0 xs) : Nat))) := by
  have hq := right_any n xs a c w hr (by omega)
  have hl := runsG_len xs.length 0 xs
  have hg : Calls Tryd.prog 36 #[.slice a xs.length c] w fun e w' => ∃ a' c', e = .returned (.slice a' ((runsG xs.length 0 xs).length / 2 :: runsG xs.length 0 xs).length c') ∧ Sv w w' (.slice a' ((runsG xs.length 0 xs).length / 2 :: runsG xs.length 0 xs).length c') ((runsG xs.length 0 xs).length / 2 :: runsG xs.length 0 xs) :=
    (runs_any n xs a c w hr (by omega) hcc hn hR).mono fun e w' ⟨p, a', c', h1, h2, h3⟩ => by
      have e2 : (runsG xs.length 0 xs).length / 2 = p := by omega
      rw [e2]
      exact ⟨a', c', h2, h3⟩
  have e : ((decide (0 ≤ n) && decide (n ≤ 4096)) && rightL n 0 xs) = true := by simp [hn, h0, hR]
  rw [e] at hq
  have hw := fun a' c' w' (h : Ru w' a' ((runsG xs.length 0 xs).length / 2 :: runsG xs.length 0 xs)) => width_any ((runsG xs.length 0 xs).length / 2 :: runsG xs.length 0 xs) a' c' w' h (by simp; omega) (by
    intro x hx
    rcases List.mem_cons.1 hx with rfl | hx
    · omega
    · exact runsG_lt n hn xs.length 0 xs (Int.le_refl _) (by omega) hR x hx)
  have hb : lebL ((runsG xs.length 0 xs).length / 2 :: runsG xs.length 0 xs) ≤ 1000000 := by
    have q := lebL_le ((runsG xs.length 0 xs).length / 2 :: runsG xs.length 0 xs)
    rw [List.length_cons] at q
    omega
  clear hr hR e hl
  generalize (runsG xs.length 0 xs).length / 2 :: runsG xs.length 0 xs = gs at *
  generalize lebL gs = q at *
  go_enter Tryd.func16, Tryd.ntmps16
  go_wp2_with first | (go_at_call 11; refine hq.mono ?_; rintro e w' ⟨h, rfl⟩; obtain rfl := h.symm) | (go_at_call 36; refine hg.mono ?_; rintro e w1 ⟨a1, c1, rfl, hS⟩; have hw1 := hw a1 c1 w1 hS.ru; replace hS := hide hS) | (go_at_call 42; refine hw1.mono ?_; rintro e w' ⟨h, rfl⟩; obtain rfl := h.symm)
  go_ret
  exact ⟨hS.out.bel, rfl⟩
set_option maxRecDepth 100000 in
set_option maxHeartbeats 4000000 in
theorem size_plain (n : Nat) (xs : List Int) (a : Option Addr) (c : Nat) (w : World) (hr : Ri w a xs) (hc : xs.length ≤ 40000) (hn : n ≤ 4096) (hR : rightL n 0 xs = true) :
    Calls Tryd.prog 16 #[.int .i64 n, .slice a xs.length c, .int .i64 0] w fun e w' => w' = w ∧ e = .returned (.int .i64 (1 + ((n + 7) / 8 : Nat))) := by
  have hq := right_any n xs a c w hr (by omega)
  have hp := psize_any n w hn
  have e : ((decide (0 ≤ (n : Int)) && decide ((n : Int) ≤ 4096)) && rightL n 0 xs) = true := by
    have h1 : (n : Int) ≤ 4096 := by omega
    simp [h1, hR]
  rw [e] at hq
  have hb : (n + 7) / 8 ≤ 1000 := by omega
  clear hr hR e
  generalize (n + 7) / 8 = q at *
  go_enter Tryd.func16, Tryd.ntmps16
  go_wp2_with first | (go_at_call 11; refine hq.mono ?_; rintro e w' ⟨h, rfl⟩; obtain rfl := h.symm) | (go_at_call 41; refine hp.mono ?_; rintro e w' ⟨h, rfl⟩; obtain rfl := h.symm)
  go_ret
  exact ⟨rfl, rfl⟩
end Go.Proofs.YtidhcmhheohciaaDoor
namespace Go.Proofs.YtidhcmhheohciaaDoor
open Go.RowKit
/-- the way with the fewest bytes, and how many they are -/
def wl (s : Nat → Nat) : Nat → Nat × Nat
  | 0 => (0, s 0)
  | k + 1 => if s (k + 1) < (wl s k).2 then (k + 1, s (k + 1)) else wl s k
theorem wl_le (s : Nat → Nat) (B : Nat) (h : ∀ k, s k ≤ B) : ∀ k, (wl s k).1 ≤ k ∧ (wl s k).2 ≤ B := by
  intro k
  induction k with
  | zero => exact ⟨Nat.le_refl _, h 0⟩
  | succ k ih =>
    rw [wl]
    split
    · exact ⟨Nat.le_refl _, h _⟩
    · exact ⟨by omega, ih.2⟩
set_option maxRecDepth 100000 in
set_option maxHeartbeats 4000000 in
theorem way_walk (n : Int) (xs : List Int) (a : Option Addr) (c : Nat) (w : World) (s : Nat → Nat) (hs : ∀ k, s k ≤ 1000000)
    (h1 : Calls Tryd.prog 11 #[.int .i64 n, .slice a xs.length c] w fun e w' => w' = w ∧ e = .returned (.bool true))
    (h2 : ∀ k : Nat, k ≤ 2 → ∀ w1, Below w.heap.size w w1 → Calls Tryd.prog 16 #[.int .i64 n, .slice a xs.length c, .int .i64 k] w1 fun e w' => Below w1.heap.size w1 w' ∧ e = .returned (.int .i64 (s k : Nat))) :
    Calls Tryd.prog 15 #[.int .i64 n, .slice a xs.length c] w fun e w' => Below w.heap.size w w' ∧ e = .returned (.int .i64 ((wl s 2).1 : Nat)) := by
  have H2 := hide h2
  have HSs := hide hs
  have h0 := h2 0 (by omega) w (Below.refl _ _)
  have hs0 := hs 0
  rw [show ((0 : Nat) : Int) = 0 from rfl] at h0
  obtain ⟨q0, hq0⟩ : ∃ q0, q0 = s 0 := ⟨_, rfl⟩
  rw [← hq0] at h0 hs0
  have HQ := hide hq0
  clear hq0 h2 hs
  go_enter Tryd.func15, Tryd.ntmps15
  go_wp2_with first | (go_at_call 11; refine h1.mono ?_; rintro e w' ⟨h, rfl⟩; obtain rfl := h.symm) | (go_at_call 16; refine h0.mono ?_; rintro e w1 ⟨hb1, rfl⟩; replace hb1 := hide hb1)
  go_loopw [5, 6, 7] (fun s5 s6 s7 wr => ∃ (k b l : Nat), s7 = .int .i64 ((k : Int) + 1) ∧ s5 = .int .i64 (b : Nat) ∧ s6 = .int .i64 (l : Nat) ∧ k ≤ 2 ∧ b ≤ 2 ∧ l ≤ 1000000 ∧ Hid (wl s k = (b, l) ∧ Below w.heap.size w wr)) (fun _ _ s7 _ => 3 - (intOf s7).toNat)
  case atStart => exact ⟨0, 0, q0, rfl, rfl, rfl, by omega, by omega, hs0, ⟨by rw [HQ.out]; rfl, hb1.out⟩⟩
  case round =>
    obtain ⟨k, b, l, rfl, rfl, rfl, hk, hb, hl, h4⟩ := hrel
    by_cases hk2 : k = 2
    · subst hk2
      go_wp2
      go_ret
      exact ⟨h4.out.2, by rw [h4.out.1]; rfl⟩
    · have hk3 : k ≤ 1 := by omega
      have hk4 : (k : Int) + 1 ≤ 2 := by omega
      have hC := H2.out (k + 1) (by omega) wr h4.out.2
      have hq := HSs.out (k + 1)
      have HW : Hid (wl s (k + 1) = if s (k + 1) < l then (k + 1, s (k + 1)) else (b, l)) := by
        unfold Hid
        rw [wl, h4.out.1]
      rw [show ((k + 1 : Nat) : Int) = (k : Int) + 1 from rfl] at hC
      have HB : Hid (Below w.heap.size w wr) := h4.out.2
      clear h4
      generalize s (k + 1) = q at *
      by_cases hlt : q < l
      · have HN : Hid (wl s (k + 1) = (k + 1, q)) := hide (HW.out.trans (if_pos hlt))
        have hlt' : (q : Int) < l := by omega
        clear HW
        go_wp2_with (go_at_call 16; refine hC.mono ?_; rintro e w2 ⟨hb2, rfl⟩; replace hb2 := (hide (HB.out.trans (hb2.mono HB.out.size))))
        exact ⟨⟨k + 1, k + 1, q, rfl, rfl, rfl, by omega, by omega, hq, ⟨HN.out, hb2.out⟩⟩, by simp [intOf]; omega⟩
      · have HN : Hid (wl s (k + 1) = (b, l)) := hide (HW.out.trans (if_neg hlt))
        have hlt' : ¬ (q : Int) < l := by omega
        clear HW
        go_wp2_with (go_at_call 16; refine hC.mono ?_; rintro e w2 ⟨hb2, rfl⟩; replace hb2 := (hide (HB.out.trans (hb2.mono HB.out.size))))
        exact ⟨⟨k + 1, b, l, rfl, rfl, rfl, by omega, hb, hl, ⟨HN.out, hb2.out⟩⟩, by simp [intOf]; omega⟩
end Go.Proofs.YtidhcmhheohciaaDoor
