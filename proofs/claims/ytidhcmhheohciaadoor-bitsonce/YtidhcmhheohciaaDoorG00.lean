import Derived.Test.YtidhcmhheohciaaDoorProg
import Derived.WalkKit
import Derived.WalkSpells
import Derived.WalkLawsBesides
import Derived.ProofKit
import Derived.Below
import Derived.LoopTactic
import Derived.Deep.CutBlock
import Derived.Deep.DeepCutAuto
import Derived.BigQuiet
import Derived.Deep.QuietTactic
import Derived.Lib.ItoaWalk
import Derived.OwnWalk
import Derived.Laws.MakeOwn
namespace Go.Proofs.YtidhcmhheohciaaDoor
open Go.RowKit
theorem hide {p : Prop} (h : p) : Hid p := h
/-- a slice of ints can be read -/
def Ri (w : World) (a : Option Addr) (xs : List Int) : Prop := ∀ i x, xs[i]? = some x → ∃ b o, a = some ⟨b, o, none⟩ ∧ w.cell? ⟨b, o + i, none⟩ = some (.int .i64 x)
theorem Ri.nil (w : World) (a : Option Addr) : Ri w a [] := fun i x h => by simp at h
theorem Ri.head {w : World} {a : Option Addr} {y : Int} {t : List Int} (h : Ri w a (y :: t)) : ∃ b o, a = some ⟨b, o, none⟩ ∧ w.cell? ⟨b, o, none⟩ = some (.int .i64 y) ∧ Ri w (some ⟨b, o + 1, none⟩) t := by
  obtain ⟨b, o, rfl, hc⟩ := h 0 y rfl
  refine ⟨b, o, rfl, hc, fun i x hx => ?_⟩
  obtain ⟨b2, o2, e, hc2⟩ := h (i + 1) x hx
  obtain ⟨rfl, rfl⟩ : b = b2 ∧ o = o2 := by simpa using e
  exact ⟨b, o + 1, rfl, by rw [Nat.add_assoc, Nat.add_comm 1 i]; exact hc2⟩
theorem Ri.at {w : World} {a : Option Addr} {xs : List Int} (h : Ri w a xs) {i : Nat} (hi : i < xs.length) : ∃ b o, a = some ⟨b, o, none⟩ ∧ w.cell? ⟨b, o + i, none⟩ = some (.int .i64 (xs.getD i 0)) := by
  obtain ⟨b, o, e, hc⟩ := h i (xs.getD i 0) (by simp [hi])
  exact ⟨b, o, e, hc⟩
theorem Ri.keep {w w' : World} {a : Option Addr} {xs : List Int} {B : Nat} (h : Ri w a xs) (hb : Below B w w') (hB : ∀ x, a = some x → x.block < B) : Ri w' a xs := fun i x hx => by
  obtain ⟨b, o, rfl, hc⟩ := h i x hx
  exact ⟨b, o, rfl, (hb.cell (p := ⟨b, o + i, none⟩) (hB ⟨b, o, none⟩ rfl)).trans hc⟩
theorem Ri.step {w : World} {b o : Nat} {t : List Int} {c : Nat} (ht : Ri w (some ⟨b, o + 1, none⟩) t) (h : t.length + 1 ≤ c) : Ri w (if c = 1 then some ⟨b, o, none⟩ else some ⟨b, o + 1, none⟩) t := by
  split
  · rename_i e
    have : t = [] := List.eq_nil_of_length_eq_zero (by omega)
    subst this; exact Ri.nil _ _
  · exact ht
theorem Ri.tail {w : World} {b o : Nat} {y : Int} {t : List Int} (h : Ri w (some ⟨b, o, none⟩) (y :: t)) : Ri w (some ⟨b, o + 1, none⟩) t := by
  obtain ⟨b2, o2, e, _, h2⟩ := h.head
  obtain ⟨rfl, rfl⟩ : b = b2 ∧ o = o2 := by simpa using e
  exact h2
/-- a part of a slice: what reads the one reads the other -/
def Su (a : Option Addr) (xs : List Int) (a' : Option Addr) (ys : List Int) : Prop := ∀ w, Ri w a xs → Ri w a' ys
theorem Ri.keep' {w w' : World} {a : Option Addr} {xs : List Int} (h : Ri w a xs) (hb : Below w.heap.size w w') : Ri w' a xs := fun i x hx => by
  obtain ⟨b, o, rfl, hc⟩ := h i x hx
  exact ⟨b, o, rfl, (hb.cell (p := ⟨b, o + i, none⟩) (World.block_lt_of_cell? w _ hc)).trans hc⟩
theorem Ri.drewN {w : World} {a : Option Addr} {xs : List Int} (h : Ri w a xs) (n : Nat) : Ri (w.drewN n) a xs := h
def lenOf : Value → Nat
  | .slice _ n _ => n
  | _ => 0
end Go.Proofs.YtidhcmhheohciaaDoor
namespace Go.Proofs.YtidhcmhheohciaaDoor
open Go.RowKit
set_option maxRecDepth 100000 in
set_option maxHeartbeats 1000000 in
theorem from_su (xs : List Int) (a : Option Addr) (c : Nat) (x : Int) (w : World) (hr : Ri w a xs) (hc : xs.length ≤ c) :
    Calls Tryd.prog 49 #[.slice a xs.length c, .int .i64 x] w fun e w' => w' = w ∧ ∃ a' c', e = .returned (.slice a' (xs.dropWhile (fun y => decide (y < x))).length c') ∧ Su a xs a' (xs.dropWhile (fun y => decide (y < x))) ∧ (xs.dropWhile (fun y => decide (y < x))).length ≤ c' ∧ c' ≤ c := by
  have HR : Hid (Ri w a xs) := hr
  clear hr
  go_enter Tryd.func49, Tryd.ntmps49
  go_wp2_with fail
  go_loop [0] (fun s0 => ∃ (a' : Option Addr) (ys : List Int) (c' : Nat), s0 = .slice a' ys.length c' ∧ Hid (Su a xs a' ys) ∧ ys.length ≤ c' ∧ c' ≤ c ∧ Hid (ys.dropWhile (fun y => decide (y < x)) = xs.dropWhile (fun y => decide (y < x)))) (fun s0 => lenOf s0)
  case atStart => exact ⟨a, xs, c, rfl, fun _ h => h, hc, Nat.le_refl _, rfl⟩
  case round =>
    obtain ⟨a', ys, c', rfl, h1, h2, h3, h4⟩ := hrel
    cases ys with
    | nil =>
      go_wp2
      go_ret
      refine ⟨rfl, a', c', ?_, ?_⟩
      · rw [← h4.out]; rfl
      · rw [← h4.out]; exact ⟨fun _ _ => Ri.nil _ _, h2, h3⟩
    | cons y t =>
      obtain ⟨b, o, rfl, hcell, ht⟩ := (h1.out _ HR.out).head
      have h2' : t.length + 1 ≤ c' := by simpa using h2
      by_cases hy : y < x
      · go_wp2
        refine ⟨⟨_, t, c' - 1, rfl, fun w2 h5 => (Ri.tail (h1.out w2 h5)).step h2', by omega, by omega, ?_⟩, by simp [lenOf]⟩
        have := h4.out
        rw [List.dropWhile_cons_of_pos (by simpa using hy)] at this
        exact this
      · go_wp2
        go_ret
        have := h4.out
        rw [List.dropWhile_cons_of_neg (by simpa using hy)] at this
        rw [← this]
        exact ⟨rfl, _, c', rfl, h1.out, h2, h3⟩
theorem from_any (xs : List Int) (a : Option Addr) (c : Nat) (x : Int) (w : World) (hr : Ri w a xs) (hc : xs.length ≤ c) :
    Calls Tryd.prog 49 #[.slice a xs.length c, .int .i64 x] w fun e w' => w' = w ∧ ∃ a' c', e = .returned (.slice a' (xs.dropWhile (fun y => decide (y < x))).length c') ∧ Ri w a' (xs.dropWhile (fun y => decide (y < x))) ∧ (xs.dropWhile (fun y => decide (y < x))).length ≤ c' ∧ c' ≤ c :=
  (from_su xs a c x w hr hc).mono fun _ _ ⟨h1, a', c', h2, h3, h4⟩ => ⟨h1, a', c', h2, h3 w hr, h4⟩
/-- is all of the one in the other? -/
def wiL : List Int → List Int → Bool
  | [], _ => true
  | x :: t, b => match b.dropWhile (fun y => decide (y < x)) with
    | [] => false
    | y :: r => if y = x then wiL t (y :: r) else false
set_option maxRecDepth 100000 in
set_option maxHeartbeats 2000000 in
theorem within_any (xs ys : List Int) (a b : Option Addr) (c d : Nat) (w : World) (hr : Ri w a xs) (hs : Ri w b ys) (hc : xs.length ≤ 9223372036854775807) (hd : ys.length ≤ d) :
    Calls Tryd.prog 29 #[.slice a xs.length c, .slice b ys.length d] w fun e w' => w' = w ∧ e = .returned (.bool (wiL xs ys)) := by
  have HR : Hid (Ri w a xs) := hr
  have HS : Hid (Ri w b ys) := hs
  clear hr hs
  go_enter Tryd.func29, Tryd.ntmps29
  go_wp2_with fail
  go_loop [1, 9] (fun s1 s9 => ∃ (b' : Option Addr) (zs : List Int) (d' k : Nat), s1 = .slice b' zs.length d' ∧ s9 = .int .i64 k ∧ k ≤ xs.length ∧ Hid (Ri w b' zs) ∧ zs.length ≤ d' ∧ d' ≤ d ∧ Hid (wiL (xs.drop k) zs = wiL xs ys)) (fun _ s9 => xs.length - (intOf s9).toNat)
  case atStart => exact ⟨b, ys, d, 0, rfl, rfl, Nat.zero_le _, HS, hd, Nat.le_refl _, by unfold Hid; simp⟩
  case round =>
    obtain ⟨b', zs, d', k, rfl, rfl, hk, h1, h2, h3, h4⟩ := hrel
    by_cases hk2 : k = xs.length
    · subst hk2
      go_wp2
      go_ret
      refine ⟨rfl, ?_⟩
      rw [← h4.out]; simp [wiL]
    · have hlt : k < xs.length := by omega
      have hlt' : (k : Int) < xs.length := by omega
      obtain ⟨ab, ao, rfl, hcell⟩ := HR.out.at hlt
      have HD : Hid (xs.drop k = xs.getD k 0 :: xs.drop (k + 1)) := by
        unfold Hid
        rw [List.drop_eq_getElem_cons hlt]; simp [hlt]
      generalize xs.getD k 0 = x at *
      have HF := fun w1 h => from_any zs b' d' x w1 h h2
      go_upto_region 5 with (go_at_call 49; refine (HF _ h1.out).mono ?_; rintro e w' ⟨hw, b2, d2, rfl, q1, q2, q3⟩; obtain rfl := hw.symm)
      clear HF
      have HW : Hid (wiL (xs.drop k) zs = match zs.dropWhile (fun y => decide (y < x)) with | [] => false | y :: r => if y = x then wiL (xs.drop (k + 1)) (y :: r) else false) := by
        unfold Hid; rw [HD.out]; rfl
      rw [h4.out] at HW
      generalize zs.dropWhile (fun y => decide (y < x)) = us at *
      cases us with
      | nil =>
        go_wp2
        go_ret
        exact ⟨rfl, by rw [HW.out]; rfl⟩
      | cons y r =>
        obtain ⟨b3, o3, rfl, hcell2, -⟩ := q1.head
        by_cases hy : y = x
        · subst hy
          have HW2 : Hid (wiL xs ys = wiL (xs.drop (k + 1)) (y :: r)) := hide (by have h5 := HW.out; simpa using h5)
          have hz : ((r.length : Int) + 1 == 0) = false := beq_eq_false_iff_ne.2 (by omega)
          go_wp2
          refine ⟨⟨_, y :: r, d2, k + 1, rfl, by simp, by omega, q1, q2, by omega, HW2.out.symm⟩, by simp [intOf]; omega⟩
        · have HW2 : Hid (wiL xs ys = false) := hide (by have h5 := HW.out; simpa [hy] using h5)
          have hz : ((r.length : Int) + 1 == 0) = false := beq_eq_false_iff_ne.2 (by omega)
          have hb : (y != x) = true := by rw [bne_iff_ne]; exact hy
          clear hy
          go_wp2
          go_ret
          exact ⟨rfl, by rw [HW2.out]; rfl⟩
end Go.Proofs.YtidhcmhheohciaaDoor
namespace Go.Proofs.YtidhcmhheohciaaDoor
open Go.RowKit
/-- is a number among them? -/
def hasL (xs : List Int) (x : Int) : Bool := xs.any (fun y => y == x)
set_option maxRecDepth 100000 in
set_option maxHeartbeats 2000000 in
theorem rhas_any (xs : List Int) (a : Option Addr) (c : Nat) (x : Int) (w : World) (hr : Ri w a xs) (hc : xs.length ≤ 9223372036854775807) :
    Calls Tryd.prog 27 #[.slice a xs.length c, .int .i64 x] w fun e w' => w' = w ∧ e = .returned (.bool (hasL xs x)) := by
  have HR : Hid (Ri w a xs) := hr
  clear hr
  go_enter Tryd.func27, Tryd.ntmps27
  go_wp2_with fail
  go_loop [5] (fun s5 => ∃ k : Nat, s5 = .int .i64 k ∧ k ≤ xs.length ∧ Hid (hasL (xs.drop k) x = hasL xs x)) (fun s5 => xs.length - (intOf s5).toNat)
  case atStart => exact ⟨0, rfl, Nat.zero_le _, rfl⟩
  case round =>
    obtain ⟨k, rfl, hk, h4⟩ := hrel
    by_cases hk2 : k = xs.length
    · subst hk2
      go_wp2
      go_ret
      refine ⟨rfl, ?_⟩
      rw [← h4.out]; simp [hasL]
    · have hlt : k < xs.length := by omega
      have hlt' : (k : Int) < xs.length := by omega
      obtain ⟨ab, ao, rfl, hcell⟩ := HR.out.at hlt
      have HD : Hid (xs.drop k = xs.getD k 0 :: xs.drop (k + 1)) := by
        unfold Hid
        rw [List.drop_eq_getElem_cons hlt]; simp [hlt]
      generalize xs.getD k 0 = y at *
      have HW : Hid (hasL xs x = ((y == x) || hasL (xs.drop (k + 1)) x)) := by
        unfold Hid; rw [← h4.out, HD.out]; rfl
      by_cases hy : y = x
      · subst hy
        have HW2 : Hid (hasL xs y = true) := hide (by have h5 := HW.out; simpa using h5)
        go_wp2
        go_ret
        exact ⟨rfl, by rw [HW2.out]; rfl⟩
      · have hb : (y == x) = false := beq_eq_false_iff_ne.2 hy
        have HW2 : Hid (hasL xs x = hasL (xs.drop (k + 1)) x) := hide (by rw [HW.out, hb]; rfl)
        clear hy
        go_wp2
        exact ⟨⟨k + 1, by simp, by omega, HW2.out.symm⟩, by simp [intOf]; omega⟩
/-- are both lists the same? -/
def sameL (xs ys : List Int) : Bool := decide (xs = ys)
theorem take_same (xs ys : List Int) (k : Nat) (hl : xs.length = ys.length) (hk : k < xs.length) (h : xs.take k = ys.take k) : (xs.getD k 0 = ys.getD k 0 → xs.take (k + 1) = ys.take (k + 1)) ∧ (xs.getD k 0 ≠ ys.getD k 0 → sameL xs ys = false) := by
  constructor
  · intro e
    rw [List.take_succ_eq_append_getElem hk, List.take_succ_eq_append_getElem (by omega), h]
    congr 1
    have e1 : xs.getD k 0 = xs[k] := by simp [hk]
    have e2 : ys.getD k 0 = ys[k] := by simp [show k < ys.length by omega]
    rw [← e1, ← e2, e]
  · intro e
    unfold sameL
    rw [decide_eq_false_iff_not]
    intro t; subst t; exact e rfl
set_option maxRecDepth 100000 in
set_option maxHeartbeats 2000000 in
theorem rsame_any (xs ys : List Int) (a b : Option Addr) (c d : Nat) (w : World) (hr : Ri w a xs) (hs : Ri w b ys) (hc : xs.length ≤ 9223372036854775807) (_hd : ys.length ≤ 9223372036854775807) :
    Calls Tryd.prog 12 #[.slice a xs.length c, .slice b ys.length d] w fun e w' => (∃ n, w' = w.drewN n) ∧ e = .returned (.bool (sameL xs ys)) := by
  have HR : Hid (Ri w a xs) := hr
  have HS : Hid (Ri w b ys) := hs
  clear hr hs
  go_enter Tryd.func12, Tryd.ntmps12
  by_cases hl : xs.length = ys.length
  · have hl2 : ((xs.length : Int) != ys.length) = false := by simp [hl]
    go_wp2_with fail
    go_loopw [5] (fun sk wr => ∃ k n : Nat, wr = w.drewN n ∧ sk = .int .i64 k ∧ k ≤ xs.length ∧ Hid (xs.take k = ys.take k)) (fun sk _ => xs.length - (intOf sk).toNat)
    case atStart => exact ⟨0, 0, rfl, rfl, Nat.zero_le _, rfl⟩
    case round =>
      obtain ⟨k, n, rfl, rfl, hk, h4⟩ := hrel
      by_cases hk2 : k = xs.length
      · subst hk2
        go_wp2
        go_ret
        refine ⟨⟨n, rfl⟩, ?_⟩
        have e : xs = ys := by have t := h4.out; rw [List.take_of_length_le (Nat.le_refl _), List.take_of_length_le (by omega)] at t; exact t
        rw [show sameL xs ys = true from decide_eq_true e]; rfl
      · have hlt : k < xs.length := by omega
        have hlt' : (k : Int) < xs.length := by omega
        have hlt2 : (k : Int) < ys.length := by omega
        obtain ⟨ab, ao, rfl, hcell⟩ := HR.out.at hlt
        obtain ⟨bb, bo, rfl, hcell2⟩ := HS.out.at (show k < ys.length by omega)
        have ht := take_same xs ys k hl hlt h4.out
        generalize xs.getD k 0 = x at *
        generalize ys.getD k 0 = y at *
        by_cases hy : x = y
        · have HT := hide (ht.1 hy)
          have hb : (x != y) = false := by simp [hy]
          clear ht hy
          go_wp2
          go_quiet (fail)
          go_wp2
          exact ⟨⟨k + 1, n + nq, rfl, by simp, by omega, HT⟩, by simp [intOf]; omega⟩
        · have HT := hide (ht.2 hy)
          have hb : (x != y) = true := by rw [bne_iff_ne]; exact hy
          clear ht hy
          go_wp2
          go_quiet (fail)
          go_wp2
          go_ret
          exact ⟨⟨n + nq, by simp⟩, by rw [show sameL xs ys = false from HT.out]; rfl⟩
  · have hl2 : ((xs.length : Int) != ys.length) = true := by rw [bne_iff_ne]; omega
    go_wp2
    go_ret
    exact ⟨⟨0, rfl⟩, by congr 2; unfold sameL; simp; exact fun t => hl (by rw [t])⟩
set_option maxRecDepth 100000 in
set_option maxHeartbeats 2000000 in
theorem equal_any (xs ys : List Int) (a b : Option Addr) (c d : Nat) (w : World) (hr : Ri w a xs) (hs : Ri w b ys) (hc : xs.length ≤ 9223372036854775807) (_hd : ys.length ≤ 9223372036854775807) :
    Calls Tryd.prog 51 #[.slice a xs.length c, .slice b ys.length d] w fun e w' => (∃ n, w' = w.drewN n) ∧ e = .returned (.bool (sameL xs ys)) := by
  have HR : Hid (Ri w a xs) := hr
  have HS : Hid (Ri w b ys) := hs
  clear hr hs
  go_enter Tryd.func51, Tryd.ntmps51
  by_cases hl : xs.length = ys.length
  · have hl2 : ((xs.length : Int) != ys.length) = false := by simp [hl]
    go_wp2_with fail
    go_loopw [13] (fun sk wr => ∃ k n : Nat, wr = w.drewN n ∧ sk = .int .i64 k ∧ k ≤ xs.length ∧ Hid (xs.take k = ys.take k)) (fun sk _ => xs.length - (intOf sk).toNat)
    case atStart => exact ⟨0, 0, rfl, rfl, Nat.zero_le _, rfl⟩
    case round =>
      obtain ⟨k, n, rfl, rfl, hk, h4⟩ := hrel
      by_cases hk2 : k = xs.length
      · subst hk2
        go_wp2
        go_ret
        refine ⟨⟨n, rfl⟩, ?_⟩
        have e : xs = ys := by have t := h4.out; rw [List.take_of_length_le (Nat.le_refl _), List.take_of_length_le (by omega)] at t; exact t
        rw [show sameL xs ys = true from decide_eq_true e]; rfl
      · have hlt : k < xs.length := by omega
        have hlt' : (k : Int) < xs.length := by omega
        have hlt2 : (k : Int) < ys.length := by omega
        obtain ⟨ab, ao, rfl, hcell⟩ := HR.out.at hlt
        obtain ⟨bb, bo, rfl, hcell2⟩ := HS.out.at (show k < ys.length by omega)
        have ht := take_same xs ys k hl hlt h4.out
        generalize xs.getD k 0 = x at *
        generalize ys.getD k 0 = y at *
        by_cases hy : x = y
        · have HT := hide (ht.1 hy)
          have hb : (x != y) = false := by simp [hy]
          clear ht hy
          go_wp2
          go_quiet (fail)
          go_wp2
          exact ⟨⟨k + 1, n + nq, rfl, by simp, by omega, HT⟩, by simp [intOf]; omega⟩
        · have HT := hide (ht.2 hy)
          have hb : (x != y) = true := by rw [bne_iff_ne]; exact hy
          clear ht hy
          go_wp2
          go_quiet (fail)
          go_wp2
          go_ret
          exact ⟨⟨n + nq, by simp⟩, by rw [show sameL xs ys = false from HT.out]; rfl⟩
  · have hl2 : ((xs.length : Int) != ys.length) = true := by rw [bne_iff_ne]; omega
    go_wp2
    go_ret
    exact ⟨⟨0, rfl⟩, by congr 2; unfold sameL; simp; exact fun t => hl (by rw [t])⟩
set_option maxRecDepth 100000 in
set_option maxHeartbeats 2000000 in
theorem same_any (xs ys : List Int) (a b : Option Addr) (c d : Nat) (w : World) (hr : Ri w a xs) (hs : Ri w b ys) (hc : xs.length ≤ 9223372036854775807) (hd : ys.length ≤ 9223372036854775807) :
    Calls Tryd.prog 30 #[.slice a xs.length c, .slice b ys.length d] w fun e w' => (∃ n, w' = w.drewN n) ∧ e = .returned (.bool (sameL xs ys)) := by
  have c1 := equal_any xs ys a b c d w hr hs hc hd
  clear hr hs
  go_enter Tryd.func30, Tryd.ntmps30
  go_wp2_with (go_at_call 51; refine c1.mono ?_; rintro e w' ⟨⟨n, rfl⟩, rfl⟩)
  go_ret
  exact ⟨⟨n, rfl⟩, rfl⟩
end Go.Proofs.YtidhcmhheohciaaDoor
namespace Go.Proofs.YtidhcmhheohciaaDoor
open Go.RowKit
theorem nan_any (x : Int) (w : World) : Calls Tryd.prog 71 #[.int .i64 x] w fun e w' => w' = w ∧ e = .returned (.bool false) := by
  go_enter Tryd.func71, Tryd.ntmps71
  go_wp2
  go_ret
  exact ⟨rfl, by simp⟩
theorem snan_any (x : Int) (w : World) : Calls Tryd.prog 64 #[.int .i64 x] w fun e w' => w' = w ∧ e = .returned (.bool false) := by
  go_enter Tryd.func64, Tryd.ntmps64
  go_wp2
  go_ret
  exact ⟨rfl, by simp⟩
theorem less_any (x y : Int) (w : World) : Calls Tryd.prog 63 #[.int .i64 x, .int .i64 y] w fun e w' => w' = w ∧ e = .returned (.bool (decide (x < y))) := by
  go_enter Tryd.func63, Tryd.ntmps63
  go_wp2_with (go_at_call 71; refine (nan_any _ _).mono ?_; rintro e w' ⟨h, rfl⟩; obtain rfl := h.symm)
  go_ret
  exact ⟨rfl, by simp⟩
/-- they rise -/
def Up (xs : List Int) : Prop := ∀ i j, i < j → j < xs.length → xs.getD i 0 < xs.getD j 0
theorem has_at (xs : List Int) (x : Int) (m : Nat) (h1 : ∀ k, k < m → xs.getD k 0 < x) (h2 : ∀ k, m ≤ k → k < xs.length → x ≤ xs.getD k 0) (hu : Up xs) (hm : m ≤ xs.length) :
    hasL xs x = (decide (m < xs.length) && (xs.getD m 0 == x)) := by
  unfold hasL
  by_cases h : m < xs.length ∧ xs.getD m 0 = x
  · rw [show decide (m < xs.length) = true from decide_eq_true h.1, show (xs.getD m 0 == x) = true from by simpa using h.2]
    show xs.any (fun y => y == x) = true
    rw [List.any_eq_true]
    exact ⟨xs.getD m 0, by simp [h.1], by simpa using h.2⟩
  · have e : (decide (m < xs.length) && (xs.getD m 0 == x)) = false := by
      by_cases h3 : m < xs.length
      · have : xs.getD m 0 ≠ x := fun t => h ⟨h3, t⟩
        rw [show (xs.getD m 0 == x) = false from by simpa using this]; simp
      · rw [show decide (m < xs.length) = false from decide_eq_false h3]; rfl
    rw [e, List.any_eq_false]
    intro y hy
    obtain ⟨k, hk, rfl⟩ := List.getElem_of_mem hy
    have ek : xs.getD k 0 = xs[k] := by simp [hk]
    intro t
    have t : xs[k] = x := by simpa using t
    rcases Nat.lt_or_ge k m with hkm | hkm
    · have := h1 k hkm; rw [ek, t] at this; omega
    · by_cases hkm2 : k = m
      · subst hkm2; exact h ⟨hk, by rw [ek, t]⟩
      · have := hu m k (by omega) hk
        have g := h2 m (Nat.le_refl _) (by omega)
        rw [ek, t] at this; omega
theorem half_le (i j : Nat) (h : i < j) : i ≤ (i + j) / 2 ∧ (i + j) / 2 < j := by omega
set_option maxRecDepth 100000 in
set_option maxHeartbeats 4000000 in
theorem search_any (xs : List Int) (a : Option Addr) (c : Nat) (x : Int) (w : World) (hr : Ri w a xs) (hc : xs.length ≤ 1000000) (hu : Up xs) :
    Calls Tryd.prog 50 #[.slice a xs.length c, .int .i64 x] w fun e w' => w' = w ∧ ∃ m : Int, e = .returned (.tuple #[.int .i64 m, .bool (hasL xs x)]) := by
  have HR : Hid (Ri w a xs) := hr
  have HU : Hid (Up xs) := hu
  clear hr hu
  go_enter Tryd.func50, Tryd.ntmps50
  go_wp2_with fail
  go_loop [7, 8] (fun si sj => ∃ i j : Nat, si = .int .i64 i ∧ sj = .int .i64 j ∧ i ≤ j ∧ j ≤ xs.length ∧ Hid ((∀ k, k < i → xs.getD k 0 < x) ∧ (∀ k, j ≤ k → k < xs.length → x ≤ xs.getD k 0))) (fun si sj => (intOf sj).toNat - (intOf si).toNat)
  case atStart => exact ⟨0, xs.length, rfl, rfl, Nat.zero_le _, Nat.le_refl _, ⟨fun k h => by omega, fun k h h2 => by omega⟩⟩
  case round =>
    obtain ⟨i, j, rfl, rfl, hij, hj, h4⟩ := hrel
    by_cases hlt : i = j
    · subst hlt
      have HE := hide (has_at xs x i h4.out.1 h4.out.2 HU.out hj)
      by_cases hn : i < xs.length
      · have hn' : (i : Int) < xs.length := by omega
        obtain ⟨ab, ao, rfl, hcell⟩ := HR.out.at hn
        have HE2 := hide (by have := HE.out; rw [show decide (i < xs.length) = true from decide_eq_true hn] at this; simpa using this : hasL xs x = (xs.getD i 0 == x))
        clear HE h4
        generalize xs.getD i 0 = y at *
        by_cases hy : y = x
        · subst hy
          go_wp2_with (go_at_call 64; refine (snan_any _ _).mono ?_; rintro e w' ⟨h, rfl⟩; obtain rfl := h.symm)
          go_ret2
          exact ⟨rfl, _, by rw [HE2.out]; simp; rfl⟩
        · have hb : (y == x) = false := beq_eq_false_iff_ne.2 hy
          clear hy
          go_wp2_with (go_at_call 64; refine (snan_any _ _).mono ?_; rintro e w' ⟨h, rfl⟩; obtain rfl := h.symm)
          go_ret2
          exact ⟨rfl, _, by rw [HE2.out, hb]; rfl⟩
      · have hn' : ¬ (i : Int) < xs.length := by omega
        have HE2 := hide (by have := HE.out; rw [show decide (i < xs.length) = false from decide_eq_false hn] at this; simpa using this : hasL xs x = false)
        clear HE h4
        go_wp2_with (go_at_call 64; refine (snan_any _ _).mono ?_; rintro e w' ⟨h, rfl⟩; obtain rfl := h.symm)
        go_ret2
        exact ⟨rfl, _, by rw [HE2.out]; rfl⟩
    · have hlt2 : (i : Int) < j := by omega
      go_upto_region 5 with fail
      obtain ⟨m, hm, m1, m2⟩ : ∃ m : Nat, ((i : Int) + j) / 2 = m ∧ i ≤ m ∧ m < j := ⟨(i + j) / 2, by omega, by omega, by omega⟩
      rw [hm]
      clear hm
      have hml : m < xs.length := by omega
      have hml2 : (m : Int) < xs.length := by omega
      obtain ⟨ab, ao, rfl, hcell⟩ := HR.out.at hml
      by_cases hy : xs.getD m 0 < x
      · have HT : Hid (∀ k, k < m + 1 → xs.getD k 0 < x) := fun k hk => by
          by_cases e : k = m
          · subst e; exact hy
          · have := HU.out k m (by omega) hml; omega
        have hb : decide (xs.getD m 0 < x) = true := decide_eq_true hy
        clear hy
        generalize xs.getD m 0 = y at *
        go_wp2_with (go_at_call 63; refine (less_any _ _ _).mono ?_; rintro e w' ⟨h, rfl⟩; obtain rfl := h.symm)
        exact ⟨⟨m + 1, j, by simp, rfl, by omega, hj, ⟨HT.out, h4.out.2⟩⟩, by simp [intOf]; omega⟩
      · have HT : Hid (∀ k, m ≤ k → k < xs.length → x ≤ xs.getD k 0) := fun k hk hk2 => by
          by_cases e : k = m
          · subst e; omega
          · have := HU.out m k (by omega) hk2; omega
        have hb : decide (xs.getD m 0 < x) = false := decide_eq_false hy
        clear hy
        generalize xs.getD m 0 = y at *
        go_wp2_with (go_at_call 63; refine (less_any _ _ _).mono ?_; rintro e w' ⟨h, rfl⟩; obtain rfl := h.symm)
        exact ⟨⟨i, m, rfl, rfl, m1, by omega, ⟨h4.out.1, HT.out⟩⟩, by simp [intOf]; omega⟩
set_option maxRecDepth 100000 in
set_option maxHeartbeats 2000000 in
theorem has_any (xs : List Int) (a : Option Addr) (c : Nat) (x : Int) (w : World) (hr : Ri w a xs) (hc : xs.length ≤ 1000000) (hu : Up xs) :
    Calls Tryd.prog 28 #[.slice a xs.length c, .int .i64 x] w fun e w' => w' = w ∧ e = .returned (.bool (hasL xs x)) := by
  have c1 := search_any xs a c x w hr hc hu
  clear hr hu
  go_enter Tryd.func28, Tryd.ntmps28
  go_wp2_with (go_at_call 50; refine c1.mono ?_; rintro e w' ⟨h, m, rfl⟩; obtain rfl := h.symm)
  go_ret
  exact ⟨rfl, rfl⟩
end Go.Proofs.YtidhcmhheohciaaDoor
namespace Go.Proofs.YtidhcmhheohciaaDoor
open Go.RowKit
def I64 (ps : List Int) : List Value := ps.map fun n => .int .i64 n
def RowN (w : World) (g : Nat) (ps : List Int) : Prop := ∀ j n, ps[j]? = some n → w.cell? ⟨g, j, none⟩ = some (.int .i64 n)
theorem info3p : (Tryd.prog.info? 3).map (fun i => (i.zero, i.size, i.bytes)) = some (some (.int .i64 0), 1, 8) := by kernel_rfl
/-- a row of numbers of the call's own, and all else as it was -/
structure St (w0 wr : World) (v : Value) (ps : List Int) : Prop where
  own : wr.ownsRow w0.heap.size 3 1 v ps.length (I64 ps)
  bel : Below w0.heap.size w0 wr
theorem St.slice {w0 wr : World} {v : Value} {ps : List Int} (h : St w0 wr v ps) : ∃ a c, v = .slice a ps.length c := by
  rcases h.own.2 with ⟨rfl, h2⟩ | ⟨g, cap, cur, rfl, _⟩
  · exact ⟨none, 0, by rw [h2]⟩
  · exact ⟨_, _, rfl⟩
theorem St.start (w0 : World) : St w0 w0 (.slice none 0 0) [] := ⟨World.ownsRow_nil _ _ _ _, Below.refl _ _⟩
theorem St.drewN {w0 wr : World} {v : Value} {ps : List Int} (h : St w0 wr v ps) (j : Nat) : St w0 (wr.drewN j) v ps := ⟨h.own, below_drewN h.bel j⟩
theorem St.row {w0 wr : World} {a : Option Addr} {n : Int} {ps : List Int} {c : Nat} (h : St w0 wr (.slice a (ps.length + 1) c) (n :: ps)) : ∃ g, a = some ⟨g, 0, none⟩ ∧ RowN wr g (n :: ps) := by
  rcases h.own.2 with ⟨h1, h2⟩ | ⟨g, cap, cur, h1, h3, h4, h5, h6, h7, h8⟩
  · simp at h2
  · simp only [Value.slice.injEq] at h1
    obtain ⟨rfl, -, rfl⟩ := h1
    refine ⟨g, rfl, fun j m hj => ?_⟩
    have hc := h.own.cells (g := g) rfl j (.int .i64 m) (by unfold I64; rw [List.getElem?_map, hj]; rfl)
    have e : (⟨g, 0, none⟩ : Addr).add j = ⟨g, j, none⟩ := by
      unfold Addr.add
      split
      · rename_i hj0; rw [hj0]
      · simp
    rw [e] at hc
    exact hc
/-- one number more -/
theorem wpList_app1 {ops : Array Oper} {rest : List Oper} {o : Oper} {a : Act} {Q : Exit → Act → World → Prop} (w0 w1 : World) (hgd : o.guard = none) (s x : Operand)
    (ho : o.op = .call { callee := .builtin .append, args := #[s, x], argTypes := #[22, 22] })
    (v : Value) (ps : List Int) (n : Int) (hS : St w0 w1 v ps) (hs : a.eval s = v) (hx : a.eval x = .slice (some ⟨w1.heap.size, 0, none⟩) 1 1) (hl : ps.length ≤ 1000000)
    (h : ∀ a' c' w', St w0 w' (.slice a' (ps.length + 1) c') (ps ++ [n]) → wpList Tryd.prog ops Q rest (a.put o.dst (.slice a' (ps.length + 1) c')) w') : wpList Tryd.prog ops Q (o :: rest) a (w1.alloc (.cells #[.int .i64 n] 3)) := by
  obtain ⟨i0, hi, hz0, hz1, hz2⟩ := info_parts info3p
  refine wpList_append_own _ hgd s x 22 ho w0.heap.size 3 i0 (.int .i64 0) 1 8 Tryd.underlying22 hi hz0 hz1 hz2 rfl (by decide) v ps.length (I64 ps) hs (hS.own.alloc _) ⟨w1.heap.size, 0, none⟩ 1 1 [.int .i64 n] hx rfl ?_ ?_ ?_ ?_ ?_ ?_
  · intro j u hj
    cases j with
    | zero => simp at hj; subst hj; simp [Addr.add]
    | succ j => simp at hj
  · intro u hu; simp at hu; subst hu; rfl
  · unfold maxLen; omega
  · omega
  · have := hS.bel.size; simp; omega
  · intro v' w' hown hgrow _
    have hB := hS.bel.size
    have hT : St w0 w' v' (ps ++ [n]) := by
      refine ⟨?_, ((hS.bel.alloc (by omega) _)).grown hgrow (by simp; omega) (fun k hk => ((hS.own.lt k hk).1))⟩
      have e : I64 (ps ++ [n]) = I64 ps ++ [.int .i64 n] := by simp [I64]
      rw [e]
      simpa using hown
    obtain ⟨a', c', rfl⟩ := hT.slice
    simp only [List.length_append, List.length_cons, List.length_nil, Nat.zero_add] at hT ⊢
    exact h a' c' w' hT
theorem St.ri {w0 wr : World} {a : Option Addr} {n c : Nat} {ps : List Int} (h : St w0 wr (.slice a n c) ps) : Ri wr a ps := by
  obtain ⟨a2, c2, e⟩ := h.slice
  obtain ⟨rfl, rfl, rfl⟩ : a = a2 ∧ n = ps.length ∧ c = c2 := by simpa using e
  intro i x hx
  cases ps with
  | nil => simp at hx
  | cons y t =>
    obtain ⟨g, rfl, hr⟩ := St.row (n := y) (ps := t) h
    exact ⟨g, 0, rfl, by rw [Nat.zero_add]; exact hr i x hx⟩
theorem St.nn {w0 wr : World} {a : Option Addr} {n c : Nat} {ps : List Int} (h : St w0 wr (.slice a n c) ps) : a = none → c = 0 := by
  intro e
  subst e
  rcases h.own.2 with ⟨h1, h2⟩ | ⟨g, cap, cur, h1, _⟩
  · simp only [Value.slice.injEq] at h1; exact h1.2.2
  · simp at h1
theorem St.cap {w0 wr : World} {a : Option Addr} {n c : Nat} {ps : List Int} (h : St w0 wr (.slice a n c) ps) : ps.length ≤ c := by
  rcases h.own.2 with ⟨h1, h2⟩ | ⟨g, cap, cur, h1, h3, h4, h5, h6, h7, h8⟩
  · rw [h2]; exact Nat.zero_le _
  · simp only [Value.slice.injEq] at h1
    obtain ⟨rfl, -, rfl⟩ := h1
    omega
end Go.Proofs.YtidhcmhheohciaaDoor
namespace Go.Proofs.YtidhcmhheohciaaDoor
open Go.RowKit
/-- what is in the one, and not in the other -/
def minL : List Int → List Int → List Int
  | [], _ => []
  | x :: t, b => match b.dropWhile (fun y => decide (y < x)) with
    | [] => x :: minL t []
    | y :: r => if y = x then minL t (y :: r) else x :: minL t (y :: r)
theorem minL_le (xs : List Int) : ∀ ys, (minL xs ys).length ≤ xs.length := by
  induction xs with
  | nil => intro ys; simp [minL]
  | cons x t ih =>
    intro ys
    unfold minL
    split
    · have := ih []; simp; omega
    · rename_i y r _
      have := ih (y :: r)
      split <;> simp <;> omega
set_option maxRecDepth 100000 in
set_option maxHeartbeats 4000000 in
theorem minus_any (xs ys : List Int) (a b : Option Addr) (c d : Nat) (w : World) (hr : Ri w a xs) (hs : Ri w b ys) (hc : xs.length ≤ 100000) (hd : ys.length ≤ d) :
    Calls Tryd.prog 26 #[.slice a xs.length c, .slice b ys.length d] w fun e w' => ∃ a' c', e = .returned (.slice a' (minL xs ys).length c') ∧ Ri w' a' (minL xs ys) ∧ (minL xs ys).length ≤ c' ∧ Below w.heap.size w w' := by
  have HR : Hid (Ri w a xs) := hr
  have HS : Hid (Ri w b ys) := hs
  clear hr hs
  go_enter Tryd.func26, Tryd.ntmps26
  go_wp2_with fail
  go_loopw [1, 5, 10] (fun s1 s5 s10 wr => ∃ (b' : Option Addr) (zs : List Int) (d' k : Nat) (ps : List Int), s1 = .slice b' zs.length d' ∧ s10 = .int .i64 k ∧ k ≤ xs.length ∧ ps.length ≤ k ∧ zs.length ≤ d' ∧ d' ≤ d ∧ Hid (Su b ys b' zs ∧ St w wr s5 ps ∧ ps ++ minL (xs.drop k) zs = minL xs ys)) (fun _ _ s10 _ => xs.length - (intOf s10).toNat)
  case atStart => exact ⟨b, ys, d, 0, [], rfl, rfl, Nat.zero_le _, Nat.le_refl _, hd, Nat.le_refl _, ⟨fun _ h => h, St.start w, by simp⟩⟩
  case round =>
    obtain ⟨b', zs, d', k, ps, rfl, rfl, hk, hp, h2, h3, h4⟩ := hrel
    obtain ⟨a5, c5, rfl⟩ := h4.out.2.1.slice
    by_cases hk2 : k = xs.length
    · subst hk2
      go_wp2
      go_ret
      have e : ps = minL xs ys := by have := h4.out.2.2; rw [List.drop_of_length_le (Nat.le_refl _)] at this; simpa [minL] using this
      rw [← e]
      exact ⟨a5, c5, rfl, h4.out.2.1.ri, h4.out.2.1.cap, h4.out.2.1.bel⟩
    · have hlt : k < xs.length := by omega
      have hlt' : (k : Int) < xs.length := by omega
      have HRr : Hid (Ri wr a xs) := HR.out.keep' h4.out.2.1.bel
      have HZr : Hid (Ri wr b' zs) := h4.out.1 _ (HS.out.keep' h4.out.2.1.bel)
      obtain ⟨ab, ao, rfl, hcell⟩ := HRr.out.at hlt
      have HD : Hid (xs.drop k = xs.getD k 0 :: xs.drop (k + 1)) := by
        unfold Hid
        rw [List.drop_eq_getElem_cons hlt]; simp [hlt]
      generalize xs.getD k 0 = x at *
      have HF := fun h => from_su zs b' d' x wr h h2
      go_upto_region 6 with (go_at_call 49; refine (HF HZr.out).mono ?_; rintro e w' ⟨hw, b2, d2, rfl, q1, q2, q3⟩; obtain rfl := hw.symm)
      clear HF
      have HSu : Hid (Su b ys b2 (zs.dropWhile (fun y => decide (y < x)))) := fun w2 h => q1 w2 (h4.out.1 w2 h)
      have HB : Hid (Ri wr b2 (zs.dropWhile (fun y => decide (y < x)))) := q1 wr HZr.out
      clear q1
      have HW : Hid (minL (xs.drop k) zs = match zs.dropWhile (fun y => decide (y < x)) with | [] => x :: minL (xs.drop (k + 1)) [] | y :: r => if y = x then minL (xs.drop (k + 1)) (y :: r) else x :: minL (xs.drop (k + 1)) (y :: r)) := by
        unfold Hid; rw [HD.out]; rfl
      generalize zs.dropWhile (fun y => decide (y < x)) = us at *
      have HST : Hid (St w wr (.slice a5 ps.length c5) ps) := h4.out.2.1
      have HA := fun (rest : List Int) (h : minL (xs.drop k) zs = rest) => hide (by rw [← h]; exact h4.out.2.2 : ps ++ rest = minL xs ys)
      have hp2 : ps.length ≤ 1000000 := by omega
      cases us with
      | nil =>
        have HN := HA _ HW.out
        clear HA HW HD h4 HZr
        go_wp2_with (at_builtin; refine wpList_app1 w wr rfl (.tmp 27) (.tmp 29) rfl _ ps x HST.out rfl rfl hp2 ?_; intro a2 c2 w2 hS2; replace hS2 := (hide hS2))
        go_round
        case rel => exact ⟨b2, [], d2, k + 1, ps ++ [x], rfl, by simp, by omega, by simp; omega, by simp, by omega, ⟨HSu.out, by simpa using hS2.out, by simpa using HN.out⟩⟩
        case measure => simp [intOf]; omega
      | cons y r =>
        obtain ⟨b3, o3, rfl, hcell2, -⟩ := HB.out.head
        have hz : ((r.length : Int) + 1 == 0) = false := beq_eq_false_iff_ne.2 (by omega)
        by_cases hy : y = x
        · subst hy
          have HN := HA _ (HW.out.trans (if_pos rfl))
          clear HA HW HD h4 HZr
          go_wp2
          exact ⟨⟨_, y :: r, d2, k + 1, ps, rfl, by simp, by omega, by omega, q2, by omega, ⟨HSu.out, HST.out, HN.out⟩⟩, by simp [intOf]; omega⟩
        · have hb : (y != x) = true := by rw [bne_iff_ne]; exact hy
          have HN := HA _ (HW.out.trans (if_neg hy))
          clear HA HW HD h4 HZr hy
          go_wp2_with (at_builtin; refine wpList_app1 w wr rfl (.tmp 27) (.tmp 29) rfl _ ps x HST.out rfl rfl hp2 ?_; intro a2 c2 w2 hS2; replace hS2 := (hide hS2))
          go_round
          case rel => exact ⟨_, y :: r, d2, k + 1, ps ++ [x], rfl, by simp, by omega, by simp; omega, q2, by omega, ⟨HSu.out, by simpa using hS2.out, by simpa using HN.out⟩⟩
          case measure => simp [intOf]; omega
end Go.Proofs.YtidhcmhheohciaaDoor
namespace Go.Proofs.YtidhcmhheohciaaDoor
open Go.RowKit
/-- is x among the numbers, each modulo n? -/
def hitL (n : Nat) : List Int → Nat → Bool
  | [], _ => false
  | r :: t, x => (wrap64 ((IntKind.u64.wrap r).tmod (n : Int)) == (x : Int)) || hitL n t x
def hit (n : Nat) (raw : List Int) (x : Nat) : Bool := hitL n (raw.take 200) x
/-- the set that is made of raw numbers: those below k -/
def setL (n : Nat) (raw : List Int) : Nat → List Int
  | 0 => []
  | k + 1 => setL n raw k ++ (if hit n raw k = true then [(k : Int)] else [])
theorem setL_le (n : Nat) (raw : List Int) (k : Nat) : (setL n raw k).length ≤ k := by
  induction k with
  | zero => simp [setL]
  | succ k ih => unfold setL; split <;> simp <;> omega
set_option maxRecDepth 100000 in
set_option maxHeartbeats 4000000 in
theorem set_any (n : Nat) (raw : List Int) (a : Option Addr) (c : Nat) (w : World) (hr : Ri w a raw) (h0 : 0 < n) (hn : n ≤ 4096) (hc : raw.length ≤ 9223372036854775807) :
    Calls Tryd.prog 21 #[.int .i64 n, .slice a raw.length c] w fun e w' => ∃ a' c', e = .returned (.slice a' (setL n raw n).length c') ∧ Ri w' a' (setL n raw n) ∧ (setL n raw n).length ≤ c' ∧ (a' = none → c' = 0) ∧ Below w.heap.size w w' := by
  have HR : Hid (Ri w a raw) := hr
  clear hr
  have h0' : 0 < (n : Int) := by omega
  have hn' : (n : Int) ≤ 4096 := by omega
  go_enter Tryd.func21, Tryd.ntmps21
  go_wp2_with fail
  go_loopw [5, 6] (fun s5 s6 wr => ∃ k : Nat, s6 = .int .i64 k ∧ k ≤ n ∧ Hid (St w wr s5 (setL n raw k))) (fun _ s6 _ => n - (intOf s6).toNat)
  case atStart => exact ⟨0, rfl, Nat.zero_le _, St.start w⟩
  case round =>
    obtain ⟨k, rfl, hk, h4⟩ := hrel
    obtain ⟨a5, c5, rfl⟩ := h4.out.slice
    by_cases hk2 : k = n
    · subst hk2
      go_wp2
      go_ret
      exact ⟨a5, c5, rfl, h4.out.ri, h4.out.cap, h4.out.nn, h4.out.bel⟩
    · have hlt : k < n := by omega
      have hlt' : (k : Int) < n := by omega
      have hlt2 : (k : Int) < 4096 := by omega
      have HRr : Hid (Ri wr a raw) := HR.out.keep' h4.out.bel
      go_wp2_with fail
      go_loopw [5, 7] (fun s5 s7 w2 => w2 = wr ∧ s5 = .slice a5 (setL n raw k).length c5 ∧ ∃ i : Nat, s7 = .int .i64 i ∧ i ≤ raw.length ∧ i ≤ 200 ∧ Hid (hit n raw k = hitL n ((raw.take 200).drop i) k)) (fun _ s7 _ => raw.length - (intOf s7).toNat)
      case atStart => exact ⟨rfl, rfl, 0, rfl, Nat.zero_le _, Nat.zero_le _, rfl⟩
      case round =>
        obtain ⟨rfl, rfl, i, rfl, hi1, hi2, h5⟩ := hrel
        have fin : (raw.take 200).drop i = [] → Hid (setL n raw (k + 1) = setL n raw k) := fun e => hide (by
          have := h5.out; rw [e] at this
          show setL n raw k ++ (if hit n raw k = true then [(k : Int)] else []) = setL n raw k
          rw [this]; simp [hitL])
        by_cases e1 : i = raw.length
        · have HN := fin (List.drop_of_length_le (by rw [List.length_take]; omega))
          have q1 : ¬ (i : Int) < raw.length := by omega
          clear fin h5 e1
          go_wp2
          exact ⟨⟨k + 1, by simp, by omega, by rw [HN.out]; exact h4⟩, by simp [intOf]; omega⟩
        by_cases e2 : i = 200
        · have HN := fin (List.drop_of_length_le (by rw [List.length_take]; omega))
          have q1 : (i : Int) < raw.length := by omega
          have q2 : ¬ (i : Int) < 200 := by omega
          clear fin h5 e1 e2
          go_wp2
          exact ⟨⟨k + 1, by simp, by omega, by rw [HN.out]; exact h4⟩, by simp [intOf]; omega⟩
        · have hil : i < raw.length := by omega
          have hil' : (i : Int) < raw.length := by omega
          have hil2 : (i : Int) < 200 := by omega
          obtain ⟨ab, ao, rfl, hcell⟩ := HRr.out.at hil
          have HD : Hid (hit n raw k = ((wrap64 ((IntKind.u64.wrap (raw.getD i 0)).tmod (n : Int)) == (k : Int)) || hitL n ((raw.take 200).drop (i + 1)) k)) := by
            unfold Hid
            have hlen : i < (raw.take 200).length := by rw [List.length_take]; omega
            have he : (raw.take 200)[i]'hlen = raw.getD i 0 := by simp [hil]
            rw [h5.out, List.drop_eq_getElem_cons hlen, he]
            rfl
          clear fin h5 e1 e2
          generalize raw.getD i 0 = r at *
          by_cases ht : (wrap64 ((IntKind.u64.wrap r).tmod (n : Int)) == (k : Int)) = true
          · have HN : Hid (setL n raw (k + 1) = setL n raw k ++ [(k : Int)]) := hide (by
              have := HD.out; rw [ht] at this
              show setL n raw k ++ (if hit n raw k = true then [(k : Int)] else []) = _
              rw [this]; simp)
            have hp2 : (setL n raw k).length ≤ 1000000 := by have := setL_le n raw k; omega
            have HST : Hid (St w wr (.slice a5 (setL n raw k).length c5) (setL n raw k)) := h4
            clear HD h4
            generalize setL n raw k = ps at *
            go_wp2_with (at_builtin; refine wpList_app1 w wr rfl (.tmp 38) (.tmp 40) rfl _ ps k HST.out rfl rfl hp2 ?_; intro a2 c2 w3 hS2; replace hS2 := (hide hS2))
            go_round
            case rel => exact ⟨k + 1, by simp, by omega, by rw [HN.out]; exact hide (by simpa using hS2.out)⟩
            case measure => simp [intOf]; omega
          · have ht : (wrap64 ((IntKind.u64.wrap r).tmod (n : Int)) == (k : Int)) = false := by simpa using ht
            have HN : Hid (hit n raw k = hitL n ((raw.take 200).drop (i + 1)) k) := hide (by have := HD.out; rw [ht] at this; simpa using this)
            clear HD
            go_wp2
            exact ⟨⟨by first | rfl | trivial, by first | rfl | trivial, i + 1, by simp, by omega, by omega, HN⟩, by simp [intOf]; omega⟩
end Go.Proofs.YtidhcmhheohciaaDoor
namespace Go.Proofs.YtidhcmhheohciaaDoor
open Go.RowKit
theorem i64_one (ps : List Int) : ∀ u ∈ I64 ps, u.oneCell' = true := by
  intro u hu; simp [I64] at hu; obtain ⟨x, _, rfl⟩ := hu; rfl
/-- a slice of numbers more -/
theorem wpList_appN {ops : Array Oper} {rest : List Oper} {o : Oper} {a : Act} {Q : Exit → Act → World → Prop} (w0 w1 : World) (hgd : o.guard = none) (s x : Operand)
    (ho : o.op = .call { callee := .builtin .append, args := #[s, x], argTypes := #[22, 22] })
    (v : Value) (ps zs : List Int) (ad : Addr) (c : Nat) (hS : St w0 w1 v ps) (hs : a.eval s = v) (hx : a.eval x = .slice (some ad) zs.length c) (hz : Ri w1 (some ad) zs) (hl : ps.length + zs.length ≤ 1000000)
    (h : ∀ a' c' w', St w0 w' (.slice a' (ps.length + zs.length) c') (ps ++ zs) → wpList Tryd.prog ops Q rest (a.put o.dst (.slice a' (ps.length + zs.length) c')) w') : wpList Tryd.prog ops Q (o :: rest) a w1 := by
  obtain ⟨i0, hi, hz0, hz1, hz2⟩ := info_parts info3p
  refine wpList_append_own _ hgd s x 22 ho w0.heap.size 3 i0 (.int .i64 0) 1 8 Tryd.underlying22 hi hz0 hz1 hz2 rfl (by decide) v ps.length (I64 ps) hs hS.own ad zs.length c (I64 zs) hx (by simp [I64]) ?_ (i64_one zs) ?_ ?_ ?_ ?_
  · intro j u hj
    unfold I64 at hj
    rw [List.getElem?_map, Option.map_eq_some_iff] at hj
    obtain ⟨n, hn, rfl⟩ := hj
    obtain ⟨b, o', e, hc⟩ := hz j n hn
    obtain rfl := Option.some.inj e
    have e2 : (⟨b, o', none⟩ : Addr).add j = ⟨b, o' + j, none⟩ := by
      unfold Addr.add
      split
      · rename_i hj0; rw [hj0]; rfl
      · rfl
    rw [e2]; exact hc
  · unfold maxLen; omega
  · omega
  · exact hS.bel.size
  · intro v' w' hown hgrow _
    have hT : St w0 w' v' (ps ++ zs) := by
      refine ⟨?_, hS.bel.grown hgrow hS.bel.size (fun k hk => ((hS.own.lt k hk).1))⟩
      have e : I64 (ps ++ zs) = I64 ps ++ I64 zs := by simp [I64]
      rw [e]
      simpa using hown
    obtain ⟨a', c', rfl⟩ := hT.slice
    simp only [List.length_append] at hT ⊢
    exact h a' c' w' hT
/-- nothing more -/
theorem wpList_app0 {ops : Array Oper} {rest : List Oper} {o : Oper} {a : Act} {Q : Exit → Act → World → Prop} (w0 w1 : World) (hgd : o.guard = none) (s x : Operand)
    (ho : o.op = .call { callee := .builtin .append, args := #[s, x], argTypes := #[22, 22] })
    (v : Value) (ps : List Int) (hS : St w0 w1 v ps) (hs : a.eval s = v) (hx : a.eval x = .slice none 0 0)
    (h : wpList Tryd.prog ops Q rest (a.put o.dst v) w1) : wpList Tryd.prog ops Q (o :: rest) a w1 := by
  refine wpList_plain hgd fun K hK => ?_
  obtain ⟨i0, hi, hz0, hz1, hz2⟩ := info_parts info3p
  have hr := run_append_owned_none (P := Tryd.prog) (w := w1) w0.heap.size 22 o.type 3 i0 1 Tryd.underlying22 hi v ps.length (I64 ps) hS.own
  unfold Oper.wp execOp
  simp only [ho, resolve, invoke, builtin, Sem.run_bind, Sem.run_pure, Result.andThen_ok, List.map_toArray, List.map_cons, List.map_nil, hs, hx, hr]
  exact hK _ _ h
/-- what is in either -/
def uniL : List Int → List Int → List Int
  | [], ys => ys
  | x :: s, [] => x :: s
  | x :: s, y :: t => if x < y then x :: uniL s (y :: t) else if y < x then y :: uniL (x :: s) t else x :: uniL s t
theorem uniL_nil (xs : List Int) : uniL xs [] = xs := by cases xs <;> simp [uniL]
theorem made_own (n : Nat) (hn : n ≤ 1000000) : ∃ C : Array Value, (∀ w : World, (Instr.makeSlice 22 (.int .i64 0) (.int .i64 (n : Int))).run Tryd.prog w = .ok (.slice (some ⟨w.heap.size, 0, none⟩) 0 n) (w.alloc (.cells C 3))) ∧ ∀ w : World, St w (w.alloc (.cells C 3)) (.slice (some ⟨w.heap.size, 0, none⟩) 0 n) [] := by
  obtain ⟨i0, hi, hz0, hz1, hz2⟩ := info_parts info3p
  refine ⟨madeCells (Value.int .i64 0).cells (n * i0.size), fun w => ?_, fun w => ⟨?_, (Below.refl _ _).alloc (Nat.le_refl _) _⟩⟩
  · have h := run_make (P := Tryd.prog) w 22 3 i0 (.int .i64 0) Tryd.underlying22 hi hz0 .i64 .i64 0 n (Int.le_refl _) (by omega) (by rw [hz2]; omega) (by omega)
    simpa using h
  · have h := World.ownsRow_made (base := w.heap.size) (e := 3) (size := 1) w (madeCells (Value.int .i64 0).cells (n * i0.size)) n (Nat.le_refl _) (by unfold maxLen; omega) (by rw [size_madeCells, hz1])
    exact h
end Go.Proofs.YtidhcmhheohciaaDoor
namespace Go.Proofs.YtidhcmhheohciaaDoor
open Go.RowKit
theorem Ri.some {w : World} {a : Option Addr} {y : Int} {t : List Int} (h : Ri w a (y :: t)) : ∃ b o, a = some ⟨b, o, none⟩ := by
  obtain ⟨b, o, e, _⟩ := h.head; exact ⟨b, o, e⟩
set_option maxRecDepth 100000 in
set_option maxHeartbeats 16000000 in
theorem union_any (xs ys : List Int) (a b : Option Addr) (c d : Nat) (w : World) (hr : Ri w a xs) (hs : Ri w b ys) (hl : xs.length + ys.length ≤ 100000) (hc : xs.length ≤ c) (hd : ys.length ≤ d) (na : a = none → c = 0) (nb : b = none → d = 0) :
    Calls Tryd.prog 25 #[.slice a xs.length c, .slice b ys.length d] w fun e w' => ∃ a' c', e = .returned (.slice a' (uniL xs ys).length c') ∧ Ri w' a' (uniL xs ys) ∧ (uniL xs ys).length ≤ c' ∧ (a' = none → c' = 0) ∧ Below w.heap.size w w' := by
  have HR : Hid (Ri w a xs) := hr
  have HS : Hid (Ri w b ys) := hs
  have NA := hide na
  have NB := hide nb
  clear hr hs na nb
  obtain ⟨C, hmk, hown⟩ := made_own (xs.length + ys.length) (by omega)
  have hST := hide (hown w)
  clear hown
  have hmk2 : ∀ w : World, (Instr.makeSlice 22 (.int .i64 0) (.int .i64 ((xs.length : Int) + ys.length))).run Tryd.prog w = .ok (.slice (some ⟨w.heap.size, 0, none⟩) 0 (xs.length + ys.length)) (w.alloc (.cells C 3)) := fun w => by simpa using hmk w
  clear hmk
  go_enter Tryd.func25, Tryd.ntmps25
  go_wp2_with fail
  clear hmk2
  go_loopw [0, 1, 5] (fun s0 s1 s5 wr => ∃ (a' b' : Option Addr) (zs us ps : List Int) (c' d' : Nat), s0 = .slice a' zs.length c' ∧ s1 = .slice b' us.length d' ∧ zs.length ≤ c' ∧ us.length ≤ d' ∧ ps.length + zs.length + us.length ≤ xs.length + ys.length ∧ Hid ((a' = none → c' = 0) ∧ (b' = none → d' = 0) ∧ Su a xs a' zs ∧ Su b ys b' us ∧ St w wr s5 ps ∧ ps ++ uniL zs us = uniL xs ys)) (fun s0 s1 _ _ => lenOf s0 + lenOf s1)
  case atStart => exact ⟨a, b, xs, ys, [], c, d, rfl, rfl, hc, hd, by simp, ⟨NA.out, NB.out, fun _ h => h, fun _ h => h, hST.out, rfl⟩⟩
  case round =>
    obtain ⟨a', b', zs, us, ps, c', d', rfl, rfl, h2, h3, hb, h4⟩ := hrel
    have hS := h4.out.2.2.2.2.1
    obtain ⟨a5, c5, rfl⟩ := hS.slice
    have HST : Hid (St w wr (.slice a5 ps.length c5) ps) := hS
    have HZ : Hid (Ri wr a' zs) := h4.out.2.2.1 _ (HR.out.keep' hS.bel)
    have HU : Hid (Ri wr b' us) := h4.out.2.2.2.1 _ (HS.out.keep' hS.bel)
    clear hS hST
    by_cases hex : zs = [] ∨ us = []
    · have HE : Hid (ps ++ zs ++ us = uniL xs ys) := hide (by
        rw [← h4.out.2.2.2.2.2, List.append_assoc]
        rcases hex with rfl | rfl
        · simp [uniL]
        · rw [uniL_nil]; simp)
      have HSu := hide h4.out.2.2.2.1
      have nz : a' = none → zs = [] ∧ c' = 0 := fun e => by
        refine ⟨?_, h4.out.1 e⟩
        cases zs with
        | nil => rfl
        | cons y t => obtain ⟨b2, o2, e2⟩ := HZ.out.some; rw [e] at e2; cases e2
      have nu : b' = none → us = [] ∧ d' = 0 := fun e => by
        refine ⟨?_, h4.out.2.1 e⟩
        cases us with
        | nil => rfl
        | cons y t => obtain ⟨b2, o2, e2⟩ := HU.out.some; rw [e] at e2; cases e2
      clear h4
      rcases hex with rfl | rfl
      · cases a' with
        | none =>
          obtain ⟨ez, ec⟩ := nz rfl
          clear ez
          subst ec
          clear nz
          cases b' with
          | none =>
            obtain ⟨eu, ed⟩ := nu rfl
            subst eu
            subst ed
            clear nu
            go_wp2_with (first | (at_builtin; refine wpList_app0 w wr rfl (.tmp 46) (.tmp 47) rfl _ ps HST.out rfl rfl ?_) | (at_builtin; refine wpList_app0 w wr rfl (.tmp 49) (.tmp 50) rfl _ ps HST.out (by simp [go_sem]) rfl ?_))
            all_goals (go_ret; have hE : ps = uniL xs ys := (by have t := HE.out; simpa using t); rw [← hE]; exact ⟨_, _, by simp [go_sem], HST.out.ri, HST.out.cap, HST.out.nn, HST.out.bel⟩)
          | some bd =>
            clear nu
            go_wp2_with (first | (at_builtin; refine wpList_app0 w wr rfl (.tmp 46) (.tmp 47) rfl _ ps HST.out rfl rfl ?_) | (at_builtin; have HU2 := hide (HSu.out _ (HS.out.keep' HST.out.bel)); refine wpList_appN w wr rfl (.tmp 49) (.tmp 50) rfl _ ps us bd d' HST.out (by simp [go_sem]) rfl HU2.out (by simp at *; omega) ?_; intro a3 c3 w3 hS3; replace hS3 := (hide hS3)))
            all_goals (go_ret; have hE : ps ++ us = uniL xs ys := (by have t := HE.out; simpa using t); rw [← hE]; exact ⟨_, _, by simp [go_sem], hS3.out.ri, hS3.out.cap, hS3.out.nn, hS3.out.bel⟩)
        | some ad =>
          clear nz
          cases b' with
          | none =>
            obtain ⟨eu, ed⟩ := nu rfl
            subst eu
            subst ed
            clear nu
            go_wp2_with (first | (at_builtin; refine wpList_appN w wr rfl (.tmp 46) (.tmp 47) rfl _ ps [] ad c' HST.out rfl rfl HZ.out (by simp at *; omega) ?_; intro a2 c2 w2 hS2; replace hS2 := (hide hS2)) | (at_builtin; refine wpList_app0 w w2 rfl (.tmp 49) (.tmp 50) rfl _ (ps ++ []) hS2.out (by simp [go_sem]) rfl ?_))
            all_goals (go_ret; have hE : ps ++ [] = uniL xs ys := (by have t := HE.out; simpa using t); rw [← hE]; exact ⟨_, _, by simp [go_sem], hS2.out.ri, hS2.out.cap, hS2.out.nn, hS2.out.bel⟩)
          | some bd =>
            clear nu
            go_wp2_with (first | (at_builtin; refine wpList_appN w wr rfl (.tmp 46) (.tmp 47) rfl _ ps [] ad c' HST.out rfl rfl HZ.out (by simp at *; omega) ?_; intro a2 c2 w2 hS2; replace hS2 := (hide hS2)) | (at_builtin; have HU2 := hide (HSu.out _ (HS.out.keep' hS2.out.bel)); refine wpList_appN w w2 rfl (.tmp 49) (.tmp 50) rfl _ (ps ++ []) us bd d' hS2.out (by simp [go_sem]) rfl HU2.out (by simp at *; omega) ?_; intro a3 c3 w3 hS3; replace hS3 := (hide hS3)))
            all_goals (go_ret; have hE : (ps ++ []) ++ us = uniL xs ys := (by have t := HE.out; simpa using t); rw [← hE]; exact ⟨_, _, by simp [go_sem], hS3.out.ri, hS3.out.cap, hS3.out.nn, hS3.out.bel⟩)
      · cases a' with
        | none =>
          obtain ⟨ez, ec⟩ := nz rfl
          subst ez
          subst ec
          clear nz
          cases b' with
          | none =>
            obtain ⟨eu, ed⟩ := nu rfl
            clear eu
            subst ed
            clear nu
            go_wp2_with (first | (at_builtin; refine wpList_app0 w wr rfl (.tmp 46) (.tmp 47) rfl _ ps HST.out rfl rfl ?_) | (at_builtin; refine wpList_app0 w wr rfl (.tmp 49) (.tmp 50) rfl _ ps HST.out (by simp [go_sem]) rfl ?_))
            all_goals (go_ret; have hE : ps = uniL xs ys := (by have t := HE.out; simpa using t); rw [← hE]; exact ⟨_, _, by simp [go_sem], HST.out.ri, HST.out.cap, HST.out.nn, HST.out.bel⟩)
          | some bd =>
            clear nu
            go_wp2_with (first | (at_builtin; refine wpList_app0 w wr rfl (.tmp 46) (.tmp 47) rfl _ ps HST.out rfl rfl ?_) | (at_builtin; have HU2 := hide (HSu.out _ (HS.out.keep' HST.out.bel)); refine wpList_appN w wr rfl (.tmp 49) (.tmp 50) rfl _ ps [] bd d' HST.out (by simp [go_sem]) rfl HU2.out (by simp at *; omega) ?_; intro a3 c3 w3 hS3; replace hS3 := (hide hS3)))
            all_goals (go_ret; have hE : ps ++ [] = uniL xs ys := (by have t := HE.out; simpa using t); rw [← hE]; exact ⟨_, _, by simp [go_sem], hS3.out.ri, hS3.out.cap, hS3.out.nn, hS3.out.bel⟩)
        | some ad =>
          clear nz
          cases b' with
          | none =>
            obtain ⟨eu, ed⟩ := nu rfl
            clear eu
            subst ed
            clear nu
            go_wp2_with (first | (at_builtin; refine wpList_appN w wr rfl (.tmp 46) (.tmp 47) rfl _ ps zs ad c' HST.out rfl rfl HZ.out (by simp at *; omega) ?_; intro a2 c2 w2 hS2; replace hS2 := (hide hS2)) | (at_builtin; refine wpList_app0 w w2 rfl (.tmp 49) (.tmp 50) rfl _ (ps ++ zs) hS2.out (by simp [go_sem]) rfl ?_))
            all_goals (go_ret; have hE : ps ++ zs = uniL xs ys := (by have t := HE.out; simpa using t); rw [← hE]; exact ⟨_, _, by simp [go_sem], hS2.out.ri, hS2.out.cap, hS2.out.nn, hS2.out.bel⟩)
          | some bd =>
            clear nu
            go_wp2_with (first | (at_builtin; refine wpList_appN w wr rfl (.tmp 46) (.tmp 47) rfl _ ps zs ad c' HST.out rfl rfl HZ.out (by simp at *; omega) ?_; intro a2 c2 w2 hS2; replace hS2 := (hide hS2)) | (at_builtin; have HU2 := hide (HSu.out _ (HS.out.keep' hS2.out.bel)); refine wpList_appN w w2 rfl (.tmp 49) (.tmp 50) rfl _ (ps ++ zs) [] bd d' hS2.out (by simp [go_sem]) rfl HU2.out (by simp at *; omega) ?_; intro a3 c3 w3 hS3; replace hS3 := (hide hS3)))
            all_goals (go_ret; have hE : (ps ++ zs) ++ [] = uniL xs ys := (by have t := HE.out; simpa using t); rw [← hE]; exact ⟨_, _, by simp [go_sem], hS3.out.ri, hS3.out.cap, hS3.out.nn, hS3.out.bel⟩)
    · cases zs with
      | nil => exact absurd (Or.inl rfl) hex
      | cons x s =>
        cases us with
        | nil => exact absurd (Or.inr rfl) hex
        | cons y t =>
          clear hex
          obtain ⟨bz, oz, rfl, hcell, -⟩ := HZ.out.head
          obtain ⟨bu, ou, rfl, hcell2, -⟩ := HU.out.head
          have h2' : s.length + 1 ≤ c' := by simpa using h2
          have h3' : t.length + 1 ≤ d' := by simpa using h3
          have hp2 : ps.length ≤ 1000000 := by simp at hb; omega
          clear HZ HU
          have S1 : Hid (Su a xs (if c' = 1 then some ⟨bz, oz, none⟩ else some ⟨bz, oz + 1, none⟩) s) := hide (fun w2 h5 => (Ri.tail (h4.out.2.2.1 w2 h5)).step h2')
          have S2 : Hid (Su b ys (if d' = 1 then some ⟨bu, ou, none⟩ else some ⟨bu, ou + 1, none⟩) t) := hide (fun w2 h5 => (Ri.tail (h4.out.2.2.2.1 w2 h5)).step h3')
          have N1 : Hid ((if c' = 1 then some (⟨bz, oz, none⟩ : Addr) else some ⟨bz, oz + 1, none⟩) = none → c' - 1 = 0) := hide (fun e => by split at e <;> cases e)
          have N2 : Hid ((if d' = 1 then some (⟨bu, ou, none⟩ : Addr) else some ⟨bu, ou + 1, none⟩) = none → d' - 1 = 0) := hide (fun e => by split at e <;> cases e)
          have S3 := hide h4.out.2.2.1
          have S4 := hide h4.out.2.2.2.1
          have HE := hide h4.out.2.2.2.2.2
          clear h4
          by_cases hlt : x < y
          · have HE2 : Hid (ps ++ [x] ++ uniL s (y :: t) = uniL xs ys) := hide (by have e := HE.out; rw [uniL, if_pos hlt] at e; simpa using e)
            have hm : min x y = x := by omega
            have q1 : (y == x) = false := beq_eq_false_iff_ne.2 (by omega)
            go_wp2
            go_quiet (fail)
            have HS2 := hide (HST.out.drewN nq)
            go_wp2_with (at_builtin; refine wpList_app1 w (wr.drewN nq) rfl (.tmp 42) (.tmp 44) rfl _ ps x HS2.out (by simp [go_sem]) rfl hp2 ?_; intro a2 c2 w2 hS2; replace hS2 := (hide hS2))
            go_round
            case rel => exact ⟨_, _, s, y :: t, ps ++ [x], c' - 1, d', rfl, rfl, by first | exact h2 | omega, by first | exact h3 | omega, by simp at *; omega, ⟨N1.out, (fun e => by cases e), S1.out, S4.out, by simpa using hS2.out, HE2.out⟩⟩
            case measure => simp [lenOf]; try omega
          by_cases hgt : y < x
          · have HE2 : Hid (ps ++ [y] ++ uniL (x :: s) t = uniL xs ys) := hide (by have e := HE.out; rw [uniL, if_neg hlt, if_pos hgt] at e; simpa using e)
            have hm : min x y = y := by omega
            have q1 : (x == y) = false := beq_eq_false_iff_ne.2 (by omega)
            go_wp2
            go_quiet (fail)
            have HS2 := hide (HST.out.drewN nq)
            go_wp2_with (at_builtin; refine wpList_app1 w (wr.drewN nq) rfl (.tmp 42) (.tmp 44) rfl _ ps y HS2.out (by simp [go_sem]) rfl hp2 ?_; intro a2 c2 w2 hS2; replace hS2 := (hide hS2))
            go_round
            case rel => exact ⟨_, _, x :: s, t, ps ++ [y], c', d' - 1, rfl, rfl, by first | exact h2 | omega, by first | exact h3 | omega, by simp at *; omega, ⟨(fun e => by cases e), N2.out, S3.out, S2.out, by simpa using hS2.out, HE2.out⟩⟩
            case measure => simp [lenOf]; try omega
          · have HE2 : Hid (ps ++ [x] ++ uniL s t = uniL xs ys) := hide (by have e := HE.out; rw [uniL, if_neg hlt, if_neg hgt] at e; simpa using e)
            obtain rfl : x = y := by omega
            have hm : min x x = x := by omega
            go_wp2
            go_quiet (fail)
            have HS2 := hide (HST.out.drewN nq)
            go_wp2_with (at_builtin; refine wpList_app1 w (wr.drewN nq) rfl (.tmp 42) (.tmp 44) rfl _ ps x HS2.out (by simp [go_sem]) rfl hp2 ?_; intro a2 c2 w2 hS2; replace hS2 := (hide hS2))
            go_round
            case rel => exact ⟨_, _, s, t, ps ++ [x], c' - 1, d' - 1, rfl, rfl, by first | exact h2 | omega, by first | exact h3 | omega, by simp at *; omega, ⟨N1.out, N2.out, S1.out, S2.out, by simpa using hS2.out, HE2.out⟩⟩
            case measure => simp [lenOf]; try omega
end Go.Proofs.YtidhcmhheohciaaDoor
