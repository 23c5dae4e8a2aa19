import Derived.Test.YthiacdbjlkpfgaaGreatDoorG05
import Derived.Test.YthiacdbjlkpfgaaGreatDoorG06
import Derived.LoopTactic
import Derived.WalkLawsBesides
import Derived.OwnWalk
import Derived.Deep.QuietTactic
import Derived.Deep.DeepCutAuto
import Derived.Deep.RegionHeld3
import Derived.Lib.ItoaWalk
import Derived.Deep.CutBlock
namespace Go.Proofs.YthiacdbjlkpfgaaGreatDoor
open Go.RowKit
/-- numbers, as cells -/
def I64 (ps : List Int) : List Value := ps.map fun n => .int .i64 n
theorem i64_one (ps : List Int) : ∀ u ∈ I64 ps, u.oneCell' = true := by
  intro u hu; simp [I64] at hu; obtain ⟨x, _, rfl⟩ := hu; rfl
/-- the least of a number and those of a row -/
def lst (m : Int) : List Int → Int
  | [] => m
  | x :: l => lst (min m x) l
def grt (m : Int) : List Int → Int
  | [] => m
  | x :: l => grt (max m x) l
theorem lst_app (m x : Int) (l : List Int) : lst m (l ++ [x]) = min (lst m l) x := by
  induction l generalizing m with
  | nil => rfl
  | cons y l ih => exact ih (min m y)
theorem grt_app (m x : Int) (l : List Int) : grt m (l ++ [x]) = max (grt m l) x := by
  induction l generalizing m with
  | nil => rfl
  | cons y l ih => exact ih (max m y)
/-- a row of numbers at a block's head -/
def RowN (w : World) (g : Nat) (ps : List Int) : Prop := ∀ j n, ps[j]? = some n → w.cell? ⟨g, j, none⟩ = some (.int .i64 n)
set_option maxHeartbeats 4000000 in
theorem min_any (g c : Nat) (n : Int) (ps : List Int) (w : World) (h : RowN w g (n :: ps)) (hl : ps.length ≤ 100) : Calls Tryz.prog 105 #[.slice (some ⟨g, 0, none⟩) (ps.length + 1) c] w fun e w' => e = .returned (.int .i64 (lst n ps)) ∧ w' = w := by
  have h0 : w.cell? ⟨g, 0, none⟩ = some (.int .i64 n) := h 0 n rfl
  have HH : Hid (RowN w g (n :: ps)) := h
  clear h
  have l1 : (ps.length : Int) + 1 ≤ 101 := by omega
  have l2 : (0 : Int) ≤ ps.length := by omega
  go_enter Tryz.func105, Tryz.ntmps105
  go_wp2
  go_loop [3, 4] (fun m i => ∃ k : Nat, k ≤ ps.length ∧ i = .int .i64 (k + 1) ∧ m = .int .i64 (lst n (ps.take k))) (fun _ i => ps.length + 1 - (intOf i).toNat)
  case atStart => exact ⟨0, Nat.zero_le _, rfl, rfl⟩
  case round =>
    obtain ⟨k, hk, rfl, rfl⟩ := hrel
    by_cases hlt : k < ps.length
    · have k1 : (k : Int) < ps.length := by omega
      have hx : w.cell? ⟨g, k + 1, none⟩ = some (.int .i64 (ps[k]'hlt)) := HH.out (k + 1) _ (by simp [hlt])
      have HT : Hid (lst n (ps.take (k + 1)) = min (lst n (ps.take k)) (ps[k]'hlt)) := by unfold Hid; rw [List.take_succ_eq_append_getElem hlt, lst_app]
      generalize ps[k]'hlt = y at *
      go_wp2
      go_round
      case rel =>
        refine ⟨k + 1, by omega, by push_cast; rfl, ?_⟩
        rw [HT.out]
        congr 1
        split <;> omega
      case measure => simp [intOf]; omega
    · go_wp2
      go_ret
      obtain rfl : k = ps.length := by omega
      rw [List.take_length]
      exact ⟨rfl, rfl⟩
set_option maxHeartbeats 4000000 in
theorem max_any (g c : Nat) (n : Int) (ps : List Int) (w : World) (h : RowN w g (n :: ps)) (hl : ps.length ≤ 100) : Calls Tryz.prog 106 #[.slice (some ⟨g, 0, none⟩) (ps.length + 1) c] w fun e w' => e = .returned (.int .i64 (grt n ps)) ∧ w' = w := by
  have h0 : w.cell? ⟨g, 0, none⟩ = some (.int .i64 n) := h 0 n rfl
  have HH : Hid (RowN w g (n :: ps)) := h
  clear h
  have l1 : (ps.length : Int) + 1 ≤ 101 := by omega
  have l2 : (0 : Int) ≤ ps.length := by omega
  go_enter Tryz.func106, Tryz.ntmps106
  go_wp2
  go_loop [3, 4] (fun m i => ∃ k : Nat, k ≤ ps.length ∧ i = .int .i64 (k + 1) ∧ m = .int .i64 (grt n (ps.take k))) (fun _ i => ps.length + 1 - (intOf i).toNat)
  case atStart => exact ⟨0, Nat.zero_le _, rfl, rfl⟩
  case round =>
    obtain ⟨k, hk, rfl, rfl⟩ := hrel
    by_cases hlt : k < ps.length
    · have k1 : (k : Int) < ps.length := by omega
      have hx : w.cell? ⟨g, k + 1, none⟩ = some (.int .i64 (ps[k]'hlt)) := HH.out (k + 1) _ (by simp [hlt])
      have HT : Hid (grt n (ps.take (k + 1)) = max (grt n (ps.take k)) (ps[k]'hlt)) := by unfold Hid; rw [List.take_succ_eq_append_getElem hlt, grt_app]
      generalize ps[k]'hlt = y at *
      go_wp2
      go_round
      case rel =>
        refine ⟨k + 1, by omega, by push_cast; rfl, ?_⟩
        rw [HT.out]
        congr 1
        split <;> omega
      case measure => simp [intOf]; omega
    · go_wp2
      go_ret
      obtain rfl : k = ps.length := by omega
      rw [List.take_length]
      exact ⟨rfl, rfl⟩
end Go.Proofs.YthiacdbjlkpfgaaGreatDoor
namespace Go.Proofs.YthiacdbjlkpfgaaGreatDoor
open Go.RowKit
theorem info2p : (Tryz.prog.info? 2).map (fun i => (i.zero, i.size, i.bytes)) = some (some (.int .i64 0), 1, 8) := by kernel_rfl
/-- a row of numbers of the call's own, and all else as it was -/
structure St (w0 wr : World) (v : Value) (ps : List Int) : Prop where
  own : wr.ownsRow w0.heap.size 2 1 v ps.length (I64 ps)
  bel : Below w0.heap.size w0 wr
theorem St.slice {w0 wr : World} {v : Value} {ps : List Int} (h : St w0 wr v ps) : ∃ a c, v = .slice a ps.length c := by
  rcases h.own.2 with ⟨rfl, h2⟩ | ⟨g, cap, cur, rfl, _⟩
  · exact ⟨none, 0, by rw [h2]⟩
  · exact ⟨_, _, rfl⟩
theorem St.start (w0 : World) : St w0 w0 (.slice none 0 0) [] := ⟨World.ownsRow_nil _ _ _ _, Below.refl _ _⟩
theorem St.drewN {w0 wr : World} {v : Value} {ps : List Int} (h : St w0 wr v ps) (j : Nat) : St w0 (wr.drewN j) v ps := ⟨h.own, below_drewN h.bel j⟩
theorem St.row {w0 wr : World} {a : Option Addr} {n : Int} {ps : List Int} {c : Nat} (h : St w0 wr (.slice a (ps.length + 1) c) (n :: ps)) : ∃ g, a = some ⟨g, 0, none⟩ ∧ RowN wr g (n :: ps) := by
  rcases h.own.2 with ⟨h1, h2⟩ | ⟨g, cap, cur, h1, h3, h4, h5, h6, h7, h8⟩
  · simp at h2
  · simp only [Value.slice.injEq] at h1
    obtain ⟨rfl, -, rfl⟩ := h1
    refine ⟨g, rfl, fun j m hj => ?_⟩
    have hc := h.own.cells (g := g) rfl j (.int .i64 m) (by unfold I64; rw [List.getElem?_map, hj]; rfl)
    have e : (⟨g, 0, none⟩ : Addr).add j = ⟨g, j, none⟩ := by
      unfold Addr.add
      split
      · rename_i hj0; rw [hj0]
      · simp
    rw [e] at hc
    exact hc
/-- one number more -/
theorem wpList_app1 {ops : Array Oper} {rest : List Oper} {o : Oper} {a : Act} {Q : Exit → Act → World → Prop} (w0 w1 : World) (hgd : o.guard = none) (s x : Operand)
    (ho : o.op = .call { callee := .builtin .append, args := #[s, x], argTypes := #[82, 82] })
    (v : Value) (ps : List Int) (n : Int) (hS : St w0 w1 v ps) (hs : a.eval s = v) (hx : a.eval x = .slice (some ⟨w1.heap.size, 0, none⟩) 1 1) (hl : ps.length ≤ 1000)
    (h : ∀ a' c' w', St w0 w' (.slice a' (ps.length + 1) c') (ps ++ [n]) → wpList Tryz.prog ops Q rest (a.put o.dst (.slice a' (ps.length + 1) c')) w') : wpList Tryz.prog ops Q (o :: rest) a (w1.alloc (.cells #[.int .i64 n] 2)) := by
  obtain ⟨i0, hi, hz0, hz1, hz2⟩ := info_parts info2p
  refine wpList_append_own _ hgd s x 82 ho w0.heap.size 2 i0 (.int .i64 0) 1 8 Tryz.underlying82 hi hz0 hz1 hz2 rfl (by decide) v ps.length (I64 ps) hs (hS.own.alloc _) ⟨w1.heap.size, 0, none⟩ 1 1 [.int .i64 n] hx rfl ?_ ?_ ?_ ?_ ?_ ?_
  · intro j u hj
    cases j with
    | zero => simp at hj; subst hj; simp [Addr.add]
    | succ j => simp at hj
  · intro u hu; simp at hu; subst hu; rfl
  · unfold maxLen; omega
  · omega
  · have := hS.bel.size; simp; omega
  · intro v' w' hown hgrow _
    have hB := hS.bel.size
    have hT : St w0 w' v' (ps ++ [n]) := by
      refine ⟨?_, ((hS.bel.alloc (by omega) _)).grown hgrow (by simp; omega) (fun k hk => ((hS.own.lt k hk).1))⟩
      have e : I64 (ps ++ [n]) = I64 ps ++ [.int .i64 n] := by simp [I64]
      rw [e]
      simpa using hown
    obtain ⟨a', c', rfl⟩ := hT.slice
    simp only [List.length_append, List.length_cons, List.length_nil, Nat.zero_add] at hT ⊢
    exact h a' c' w' hT
set_option maxRecDepth 100000 in
theorem idx0 (x y : Int) (w : World) : Sem.run Tryz.prog (Instr.index 108 (.agg #[.int .i64 x, .int .i64 y]) (.int .i64 0)) w = .ok (.int .i64 x) w := by
  rfl
set_option maxRecDepth 100000 in
theorem idx1 (x y : Int) (w : World) : Sem.run Tryz.prog (Instr.index 108 (.agg #[.int .i64 x, .int .i64 y]) (.int .i64 1)) w = .ok (.int .i64 y) w := by
  rfl
end Go.Proofs.YthiacdbjlkpfgaaGreatDoor
namespace Go.Proofs.YthiacdbjlkpfgaaGreatDoor
open Go.RowKit
set_option maxRecDepth 100000 in
set_option maxHeartbeats 16000000 in
theorem quo_any (a b : Int × Int) (w : World) (ha : Sp a) (hb : Sp b) (h0 : 0 < b.1 ∨ b.2 < 0) (hm : ¬ (a.1 = -9223372036854775808 ∧ b.1 ≤ -1 ∧ -1 ≤ b.2)) : Calls Tryz.prog 108 #[.agg #[.int .i64 a.1, .int .i64 a.2], .agg #[.int .i64 b.1, .int .i64 b.2]] w fun e w' => e = .returned (.agg #[.int .i64 (quoP a b).1, .int .i64 (quoP a b).2]) ∧ Below w.heap.size w w' := by
  have i1 : i64 a.1 := by unfold Sp at ha; unfold i64; omega
  have i2 : i64 a.2 := by unfold Sp at ha; unfold i64; omega
  have i3 : i64 b.1 := by unfold Sp at hb; unfold i64; omega
  have i4 : i64 b.2 := by unfold Sp at hb; unfold i64; omega
  have n3 : b.1 ≠ 0 := by unfold Sp at hb; omega
  have n4 : b.2 ≠ 0 := by unfold Sp at hb; omega
  have HB : Hid (quoP a b = (lst (a.1.tdiv b.1) [(a.1.tdiv b.2), (a.2.tdiv b.1), (a.2.tdiv b.2)], grt (a.1.tdiv b.1) [(a.1.tdiv b.2), (a.2.tdiv b.1), (a.2.tdiv b.2)])) := by
    unfold Hid quoP mn mx
    simp only [lst, grt, Prod.mk.injEq]
    omega
  have q00 : (arith 7 a.1 b.1).1 = (a.1.tdiv b.1) := by
    have e := tdiv_fit a.1 b.1 i1 n3 (by unfold Sp at ha hb; omega)
    unfold arith
    simp only [if_neg n3, if_pos, Int.reduceEq, if_false]
    exact wrap_fit _ e.1 e.2
  have q01 : (arith 7 a.1 b.2).1 = (a.1.tdiv b.2) := by
    have e := tdiv_fit a.1 b.2 i1 n4 (by unfold Sp at ha hb; omega)
    unfold arith
    simp only [if_neg n4, if_pos, Int.reduceEq, if_false]
    exact wrap_fit _ e.1 e.2
  have q10 : (arith 7 a.2 b.1).1 = (a.2.tdiv b.1) := by
    have e := tdiv_fit a.2 b.1 i2 n3 (by unfold Sp at ha hb; omega)
    unfold arith
    simp only [if_neg n3, if_pos, Int.reduceEq, if_false]
    exact wrap_fit _ e.1 e.2
  have q11 : (arith 7 a.2 b.2).1 = (a.2.tdiv b.2) := by
    have e := tdiv_fit a.2 b.2 i2 n4 (by unfold Sp at ha hb; omega)
    unfold arith
    simp only [if_neg n4, if_pos, Int.reduceEq, if_false]
    exact wrap_fit _ e.1 e.2
  clear ha hb h0 hm
  have X0 := idx0
  have X1 := idx1
  have S0 : Hid (∀ w0 : World, St w0 w0 (.slice none 0 0) []) := St.start
  go_enter Tryz.func108, Tryz.ntmps108
  go_wp2_with fail
  obtain ⟨w3, hw3⟩ : ∃ w3, w3 = ((w.alloc (.cells #[.int .i64 a.1, .int .i64 a.2] 30)).alloc (.cells #[.int .i64 b.1, .int .i64 b.2] 30)).alloc (.cells #[.int .i64 0, .int .i64 0] 30) := ⟨_, rfl⟩
  rw [← hw3]
  have z3 : w.heap.size + 1 + 1 < w3.heap.size := by rw [hw3]; simp
  have cB0 : w3.cell? ⟨w.heap.size + 1, 0, none⟩ = some (.int .i64 b.1) := by subst hw3; simp [go_sem]
  have cB1 : w3.cell? ⟨w.heap.size + 1, 1, none⟩ = some (.int .i64 b.2) := by subst hw3; simp [go_sem]
  have cR0 : w3.cell? ⟨w.heap.size + 1 + 1, 0, none⟩ = some (.int .i64 0) := by subst hw3; simp [go_sem]
  have cR1 : w3.cell? ⟨w.heap.size + 1 + 1, 1, none⟩ = some (.int .i64 0) := by subst hw3; simp [go_sem]
  have cF0 : w3.frozen? ⟨w.heap.size + 1 + 1, 0, none⟩ = false := by subst hw3; simp [go_sem]
  have cF1 : w3.frozen? ⟨w.heap.size + 1 + 1, 1, none⟩ = false := by subst hw3; simp [go_sem]
  have W3 : Hid (Below w.heap.size w w3) := by unfold Hid; rw [hw3]; exact (by repeat (first | exact Below.refl _ _ | (refine Below.drew ?_) | (refine below_drewN ?_ _) | (refine Below.setCell ?_ (by first | omega | (simp; done) | (simp; omega)) _) | (refine Below.alloc ?_ (by first | omega | (simp; done) | (simp; omega)) _) | (refine Below.trans ?_ (Below.mono (by assumption) (by first | omega | (simp; done) | (simp; omega))))))
  clear hw3
  have KB : ∀ (wr : World) (v : Value) (ps : List Int), Hid (St w3 wr v ps) → (∀ n o, n < w3.heap.size → wr.cell? ⟨n, o, none⟩ = w3.cell? ⟨n, o, none⟩) ∧ (∀ n o, n < w3.heap.size → wr.frozen? ⟨n, o, none⟩ = w3.frozen? ⟨n, o, none⟩) ∧ w3.heap.size ≤ wr.heap.size := fun wr v ps h => ⟨(bcell h.out.bel).1, (bcell h.out.bel).2, h.out.bel.size⟩
  generalize hR : w.heap.size + 1 + 1 = R at *
  generalize hBq : w.heap.size + 1 = Bq at *
  have zB : Bq < R := by omega
  have rb : w.heap.size ≤ R := by omega
  clear hR hBq
  go_loopw [5, 17] (fun sl ix wr => (ix = .int .i64 0 ∧ Hid (St w3 wr sl [])) ∨ (ix = .int .i64 1 ∧ Hid (St w3 wr sl [(a.1.tdiv b.1), (a.1.tdiv b.2)])) ∨ (ix = .int .i64 2 ∧ Hid (St w3 wr sl [(a.1.tdiv b.1), (a.1.tdiv b.2), (a.2.tdiv b.1), (a.2.tdiv b.2)]))) (fun _ i _ => 2 - (intOf i).toNat)
  case atStart => exact Or.inl ⟨rfl, S0.out w3⟩
  case round =>
    clear S0
    rcases hrel with ⟨rfl, hS⟩ | ⟨rfl, hS⟩ | ⟨rfl, hS⟩
    · obtain ⟨a1, c1, rfl⟩ := (hS.out).slice
      obtain ⟨hc, hf, hz⟩ := KB _ _ _ (hS.out)
      have dB0 := (hc Bq 0 (by omega)).trans cB0
      have dB1 := (hc Bq 1 (by omega)).trans cB1
      have dR0 := (hc R 0 z3).trans cR0
      have dR1 := (hc R 1 z3).trans cR1
      have dF0 := (hf R 0 z3).trans cF0
      have dF1 := (hf R 1 z3).trans cF1
      have zR : R < wr.heap.size := by omega
      have hWr : Below w.heap.size w wr := W3.out.trans ((hS.out).bel.mono W3.out.size)
      clear hc hf
      go_wp2_with fail
      have hS1 := hS
      clear hS zR dR0 dR1 dF0 dF1 dB0 dB1 hWr hz
      go_loopw [5, 25] (fun sl ix wr => (ix = .int .i64 0 ∧ Hid (St w3 wr sl [])) ∨ (ix = .int .i64 1 ∧ Hid (St w3 wr sl [(a.1.tdiv b.1)])) ∨ (ix = .int .i64 2 ∧ Hid (St w3 wr sl [(a.1.tdiv b.1), (a.1.tdiv b.2)]))) (fun _ i _ => 2 - (intOf i).toNat)
      case atStart => exact Or.inl ⟨rfl, hS1⟩
      case round =>
        clear hS1
        rcases hrel with ⟨rfl, hS⟩ | ⟨rfl, hS⟩ | ⟨rfl, hS⟩
        · obtain ⟨a1, c1, rfl⟩ := (hS.out).slice
          obtain ⟨hc, hf, hz⟩ := KB _ _ _ (hS.out)
          have dB0 := (hc Bq 0 (by omega)).trans cB0
          have dB1 := (hc Bq 1 (by omega)).trans cB1
          have dR0 := (hc R 0 z3).trans cR0
          have dR1 := (hc R 1 z3).trans cR1
          have dF0 := (hf R 0 z3).trans cF0
          have dF1 := (hf R 1 z3).trans cF1
          have zR : R < wr.heap.size := by omega
          have hWr : Below w.heap.size w wr := W3.out.trans ((hS.out).bel.mono W3.out.size)
          clear hc hf
          go_wp2_with (first | (go_at_call 77; refine (arith_vm _ _ _ _ (by assumption) (by assumption)).mono ?_; rintro e w1 ⟨rfl, rfl⟩) | (at_builtin; refine wpList_app1 w3 _ rfl (.tmp 34) (.tmp 36) rfl _ [] (a.1.tdiv b.1) hS.out rfl rfl (Nat.le_of_ble_eq_true rfl) ?_; intro a2 c2 w2 hS2; replace hS2 := (hide hS2)))
          go_round
          case rel => exact Or.inr (Or.inl ⟨rfl, hS2.out⟩)
          case measure => simp [intOf]
        · obtain ⟨a1, c1, rfl⟩ := (hS.out).slice
          obtain ⟨hc, hf, hz⟩ := KB _ _ _ (hS.out)
          have dB0 := (hc Bq 0 (by omega)).trans cB0
          have dB1 := (hc Bq 1 (by omega)).trans cB1
          have dR0 := (hc R 0 z3).trans cR0
          have dR1 := (hc R 1 z3).trans cR1
          have dF0 := (hf R 0 z3).trans cF0
          have dF1 := (hf R 1 z3).trans cF1
          have zR : R < wr.heap.size := by omega
          have hWr : Below w.heap.size w wr := W3.out.trans ((hS.out).bel.mono W3.out.size)
          clear hc hf
          go_wp2_with (first | (go_at_call 77; refine (arith_vm _ _ _ _ (by assumption) (by assumption)).mono ?_; rintro e w1 ⟨rfl, rfl⟩) | (at_builtin; refine wpList_app1 w3 _ rfl (.tmp 34) (.tmp 36) rfl _ [(a.1.tdiv b.1)] (a.1.tdiv b.2) hS.out rfl rfl (Nat.le_of_ble_eq_true rfl) ?_; intro a2 c2 w2 hS2; replace hS2 := (hide hS2)))
          go_round
          case rel => exact Or.inr (Or.inr ⟨rfl, hS2.out⟩)
          case measure => simp [intOf]
        · obtain ⟨a1, c1, rfl⟩ := (hS.out).slice
          go_wp2_with fail
          go_round
          case rel => exact Or.inr (Or.inl ⟨rfl, hS⟩)
          case measure => simp [intOf]
    · obtain ⟨a1, c1, rfl⟩ := (hS.out).slice
      obtain ⟨hc, hf, hz⟩ := KB _ _ _ (hS.out)
      have dB0 := (hc Bq 0 (by omega)).trans cB0
      have dB1 := (hc Bq 1 (by omega)).trans cB1
      have dR0 := (hc R 0 z3).trans cR0
      have dR1 := (hc R 1 z3).trans cR1
      have dF0 := (hf R 0 z3).trans cF0
      have dF1 := (hf R 1 z3).trans cF1
      have zR : R < wr.heap.size := by omega
      have hWr : Below w.heap.size w wr := W3.out.trans ((hS.out).bel.mono W3.out.size)
      clear hc hf
      go_wp2_with fail
      have hS1 := hS
      clear hS zR dR0 dR1 dF0 dF1 dB0 dB1 hWr hz
      go_loopw [5, 25] (fun sl ix wr => (ix = .int .i64 0 ∧ Hid (St w3 wr sl [(a.1.tdiv b.1), (a.1.tdiv b.2)])) ∨ (ix = .int .i64 1 ∧ Hid (St w3 wr sl [(a.1.tdiv b.1), (a.1.tdiv b.2), (a.2.tdiv b.1)])) ∨ (ix = .int .i64 2 ∧ Hid (St w3 wr sl [(a.1.tdiv b.1), (a.1.tdiv b.2), (a.2.tdiv b.1), (a.2.tdiv b.2)]))) (fun _ i _ => 2 - (intOf i).toNat)
      case atStart => exact Or.inl ⟨rfl, hS1⟩
      case round =>
        clear hS1
        rcases hrel with ⟨rfl, hS⟩ | ⟨rfl, hS⟩ | ⟨rfl, hS⟩
        · obtain ⟨a1, c1, rfl⟩ := (hS.out).slice
          obtain ⟨hc, hf, hz⟩ := KB _ _ _ (hS.out)
          have dB0 := (hc Bq 0 (by omega)).trans cB0
          have dB1 := (hc Bq 1 (by omega)).trans cB1
          have dR0 := (hc R 0 z3).trans cR0
          have dR1 := (hc R 1 z3).trans cR1
          have dF0 := (hf R 0 z3).trans cF0
          have dF1 := (hf R 1 z3).trans cF1
          have zR : R < wr.heap.size := by omega
          have hWr : Below w.heap.size w wr := W3.out.trans ((hS.out).bel.mono W3.out.size)
          clear hc hf
          go_wp2_with (first | (go_at_call 77; refine (arith_vm _ _ _ _ (by assumption) (by assumption)).mono ?_; rintro e w1 ⟨rfl, rfl⟩) | (at_builtin; refine wpList_app1 w3 _ rfl (.tmp 34) (.tmp 36) rfl _ [(a.1.tdiv b.1), (a.1.tdiv b.2)] (a.2.tdiv b.1) hS.out rfl rfl (Nat.le_of_ble_eq_true rfl) ?_; intro a2 c2 w2 hS2; replace hS2 := (hide hS2)))
          go_round
          case rel => exact Or.inr (Or.inl ⟨rfl, hS2.out⟩)
          case measure => simp [intOf]
        · obtain ⟨a1, c1, rfl⟩ := (hS.out).slice
          obtain ⟨hc, hf, hz⟩ := KB _ _ _ (hS.out)
          have dB0 := (hc Bq 0 (by omega)).trans cB0
          have dB1 := (hc Bq 1 (by omega)).trans cB1
          have dR0 := (hc R 0 z3).trans cR0
          have dR1 := (hc R 1 z3).trans cR1
          have dF0 := (hf R 0 z3).trans cF0
          have dF1 := (hf R 1 z3).trans cF1
          have zR : R < wr.heap.size := by omega
          have hWr : Below w.heap.size w wr := W3.out.trans ((hS.out).bel.mono W3.out.size)
          clear hc hf
          go_wp2_with (first | (go_at_call 77; refine (arith_vm _ _ _ _ (by assumption) (by assumption)).mono ?_; rintro e w1 ⟨rfl, rfl⟩) | (at_builtin; refine wpList_app1 w3 _ rfl (.tmp 34) (.tmp 36) rfl _ [(a.1.tdiv b.1), (a.1.tdiv b.2), (a.2.tdiv b.1)] (a.2.tdiv b.2) hS.out rfl rfl (Nat.le_of_ble_eq_true rfl) ?_; intro a2 c2 w2 hS2; replace hS2 := (hide hS2)))
          go_round
          case rel => exact Or.inr (Or.inr ⟨rfl, hS2.out⟩)
          case measure => simp [intOf]
        · obtain ⟨a1, c1, rfl⟩ := (hS.out).slice
          go_wp2_with fail
          go_round
          case rel => exact Or.inr (Or.inr ⟨rfl, hS⟩)
          case measure => simp [intOf]
    · obtain ⟨a1, c1, rfl⟩ := (hS.out).slice
      obtain ⟨hc, hf, hz⟩ := KB _ _ _ (hS.out)
      have dB0 := (hc Bq 0 (by omega)).trans cB0
      have dB1 := (hc Bq 1 (by omega)).trans cB1
      have dR0 := (hc R 0 z3).trans cR0
      have dR1 := (hc R 1 z3).trans cR1
      have dF0 := (hf R 0 z3).trans cF0
      have dF1 := (hf R 1 z3).trans cF1
      have zR : R < wr.heap.size := by omega
      have hWr : Below w.heap.size w wr := W3.out.trans ((hS.out).bel.mono W3.out.size)
      clear hc hf
      obtain ⟨g, rfl, hrow⟩ := St.row (n := (a.1.tdiv b.1)) (ps := [(a.1.tdiv b.2), (a.2.tdiv b.1), (a.2.tdiv b.2)]) (hS.out)
      have HR : Hid (RowN wr g [(a.1.tdiv b.1), (a.1.tdiv b.2), (a.2.tdiv b.1), (a.2.tdiv b.2)]) := hrow
      clear hrow
      have HC := HB.out
      replace HC := (hide HC)
      have M1 := fun w1 h => min_any g c1 (a.1.tdiv b.1) [(a.1.tdiv b.2), (a.2.tdiv b.1), (a.2.tdiv b.2)] w1 h (Nat.le_of_ble_eq_true rfl)
      have M2 := fun w1 h => max_any g c1 (a.1.tdiv b.1) [(a.1.tdiv b.2), (a.2.tdiv b.1), (a.2.tdiv b.2)] w1 h (Nat.le_of_ble_eq_true rfl)
      generalize lst (a.1.tdiv b.1) [(a.1.tdiv b.2), (a.2.tdiv b.1), (a.2.tdiv b.2)] = lo at *
      generalize grt (a.1.tdiv b.1) [(a.1.tdiv b.2), (a.2.tdiv b.1), (a.2.tdiv b.2)] = hi at *
      go_wp2_with (first | (go_at_call 105; refine (M1 _ HR.out).mono ?_; rintro e w1 ⟨rfl, rfl⟩) | (go_at_call 106; refine (M2 _ HR.out).mono ?_; rintro e w1 ⟨rfl, rfl⟩))
      refine bodyPost_ret (by simp [results, Tryz.results108, go_sem, *]; try rfl) rfl ⟨?_, (by repeat (first | assumption | (refine Below.drew ?_) | (refine below_drewN ?_ _) | (refine Below.setCell ?_ (by first | omega | (simp; omega)) _) | (refine Below.alloc ?_ (by first | omega | (simp; omega)) _)))⟩
      rw [HC.out]
end Go.Proofs.YthiacdbjlkpfgaaGreatDoor
namespace Go.Proofs.YthiacdbjlkpfgaaGreatDoor
open Go.RowKit
/-- a box of two numbers -/
def Bx (w : World) (p : Nat) (x y : Int) : Prop := w.cell? ⟨p, 0, none⟩ = some (.int .i64 x) ∧ w.cell? ⟨p, 1, none⟩ = some (.int .i64 y)
theorem Bx.keep {w w' : World} {p : Nat} {x y : Int} (h : Bx w p x y) (hb : Below w.heap.size w w') : Bx w' p x y := by
  have hp : p < w.heap.size := World.block_lt_of_cell? w _ h.1
  exact ⟨(hb.cell (p := ⟨p, 0, none⟩) hp).trans h.1, (hb.cell (p := ⟨p, 1, none⟩) hp).trans h.2⟩
theorem Bx.new (w : World) (x y : Int) (t : TypeId) : Bx (w.alloc (.cells #[.int .i64 x, .int .i64 y] t)) w.heap.size x y := ⟨by simp, by simp⟩
theorem Bx.set {b : World} {p q : Nat} {x y : Int} (h : p < q) (h' : Bx b p x y) (v u : Value) : Bx ((b.setCell ⟨q, 0, none⟩ v).setCell ⟨q, 1, none⟩ u) p x y := by
  have ne : ∀ k j : Nat, (⟨q, j, none⟩ : Addr) ≠ ⟨p, k, none⟩ := fun k j e => by
    have := congrArg Addr.block e
    simp at this
    omega
  exact ⟨(World.cell?_setCell_other _ _ _ _ (ne 0 1)).trans ((World.cell?_setCell_other _ _ _ _ (ne 0 0)).trans h'.1), (World.cell?_setCell_other _ _ _ _ (ne 1 1)).trans ((World.cell?_setCell_other _ _ _ _ (ne 1 0)).trans h'.2)⟩
theorem Bx.set' {b : World} {p q : Nat} {x y : Int} (h : p ≠ q) (h' : Bx b p x y) (v u : Value) : Bx ((b.setCell ⟨q, 0, none⟩ v).setCell ⟨q, 1, none⟩ u) p x y := by
  have ne : ∀ k j : Nat, (⟨q, j, none⟩ : Addr) ≠ ⟨p, k, none⟩ := fun k j e => by
    have := congrArg Addr.block e
    simp at this
    omega
  exact ⟨(World.cell?_setCell_other _ _ _ _ (ne 0 1)).trans ((World.cell?_setCell_other _ _ _ _ (ne 0 0)).trans h'.1), (World.cell?_setCell_other _ _ _ _ (ne 1 1)).trans ((World.cell?_setCell_other _ _ _ _ (ne 1 0)).trans h'.2)⟩
theorem Bx.wrote {b : World} {q : Nat} {x y : Int} {v u : Value} (h0 : b.cell? ⟨q, 0, none⟩ = some v) (h1 : b.cell? ⟨q, 1, none⟩ = some u) : Bx ((b.setCell ⟨q, 0, none⟩ (.int .i64 x)).setCell ⟨q, 1, none⟩ (.int .i64 y)) q x y := by
  have e1 := World.cell?_setCell_same b ⟨q, 0, none⟩ (.int .i64 x) h0
  have e2 : (b.setCell ⟨q, 0, none⟩ (.int .i64 x)).cell? ⟨q, 1, none⟩ = some u := (World.cell?_setCell_other _ _ _ _ (by simp)).trans h1
  exact ⟨(World.cell?_setCell_other _ _ _ _ (by simp)).trans e1, World.cell?_setCell_same _ _ _ e2⟩
theorem Bx.lt {w : World} {p : Nat} {x y : Int} (h : Bx w p x y) : p < w.heap.size := World.block_lt_of_cell? w _ h.1
/-- a box that may be written -/
def Bz (w : World) (p : Nat) (x y : Int) : Prop := Bx w p x y ∧ w.frozen? ⟨p, 0, none⟩ = false ∧ w.frozen? ⟨p, 1, none⟩ = false
theorem Bz.keep {w w' : World} {p : Nat} {x y : Int} (h : Bz w p x y) (hb : Below w.heap.size w w') : Bz w' p x y :=
  ⟨h.1.keep hb, ((bcell hb).2 p 0 h.1.lt).trans h.2.1, ((bcell hb).2 p 1 h.1.lt).trans h.2.2⟩
theorem Bz.new (w : World) (x y : Int) (t : TypeId) : Bz (w.alloc (.cells #[.int .i64 x, .int .i64 y] t)) w.heap.size x y := ⟨Bx.new w x y t, by simp [go_sem], by simp [go_sem]⟩
theorem Bz.wrote {b : World} {q : Nat} {x y x' y' : Int} (h : Bz b q x y) : Bz ((b.setCell ⟨q, 0, none⟩ (.int .i64 x')).setCell ⟨q, 1, none⟩ (.int .i64 y')) q x' y' :=
  ⟨Bx.wrote h.1.1 h.1.2, by simpa using h.2.1, by simpa using h.2.2⟩
theorem Bz.set' {b : World} {p q : Nat} {x y : Int} (h : p ≠ q) (h' : Bz b p x y) (v u : Value) : Bz ((b.setCell ⟨q, 0, none⟩ v).setCell ⟨q, 1, none⟩ u) p x y :=
  ⟨h'.1.set' h v u, by simpa using h'.2.1, by simpa using h'.2.2⟩
theorem meet_below (b : Int × Int) (hb : Sp b) (h : b.1 ≤ -1) : meetP b (-9223372036854775808, -1) = (belowP b, true) := by
  unfold Sp at hb
  unfold meetP belowP
  dsimp only
  rw [if_pos (by omega), Int.max_eq_left (by omega)]
theorem meet_nobelow (b : Int × Int) (_hb : Sp b) (h : ¬ b.1 ≤ -1) : meetP b (-9223372036854775808, -1) = ((0, 0), false) := by
  unfold meetP
  dsimp only
  rw [if_neg (by omega)]
theorem meet_above (b : Int × Int) (hb : Sp b) (h : 1 ≤ b.2) : meetP b (1, 9223372036854775807) = (aboveP b, true) := by
  unfold Sp at hb
  unfold meetP aboveP
  dsimp only
  rw [if_pos (by omega), Int.min_eq_left (by omega)]
theorem meet_noabove (b : Int × Int) (hb : Sp b) (h : ¬ 1 ≤ b.2) : meetP b (1, 9223372036854775807) = ((0, 0), false) := by
  unfold Sp at hb
  unfold meetP
  dsimp only
  rw [if_neg (by omega)]
theorem sp_below (b : Int × Int) (hb : Sp b) (h : b.1 ≤ -1) : Sp (belowP b) ∧ (belowP b).2 < 0 := by
  unfold Sp belowP at *; dsimp only; omega
theorem sp_above (b : Int × Int) (hb : Sp b) (h : 1 ≤ b.2) : Sp (aboveP b) ∧ 0 < (aboveP b).1 := by
  unfold Sp aboveP at *; dsimp only; omega
end Go.Proofs.YthiacdbjlkpfgaaGreatDoor
namespace Go.Proofs.YthiacdbjlkpfgaaGreatDoor
open Go.RowKit
set_option maxRecDepth 100000 in
set_option maxHeartbeats 16000000 in
theorem quots_all (a b : Int × Int) (w : World) (_ha : Sp a) (_hb : Sp b) (hA : a.1 = -9223372036854775808 ∧ b.1 ≤ -1 ∧ -1 ≤ b.2) : Calls Tryz.prog 81 #[.agg #[.int .i64 a.1, .int .i64 a.2], .agg #[.int .i64 b.1, .int .i64 b.2]] w fun e w' => e = .returned (.tuple #[.agg #[.int .i64 ((quotsP a b).1).1, .int .i64 ((quotsP a b).1).2], .bool (quotsP a b).2]) ∧ Below w.heap.size w w' := by
  have HQ : Hid (quotsP a b = ((-9223372036854775808, 9223372036854775807), true)) := by unfold Hid quotsP; rw [if_pos hA]; rfl
  have hL := hA.1
  have hh : hasR b.1 b.2 (-1) = true := by unfold hasR; simp only [Bool.and_eq_true, decide_eq_true_iff]; exact hA.2
  clear hA
  go_enter Tryz.func81, Tryz.ntmps81
  go_wp2_with (first | (go_at_call 107; refine (nhas_any _ _ _ _).mono ?_; rintro e w1 ⟨rfl, o1, rfl⟩) | (go_at_call 75; refine (nany_any _).mono ?_; rintro e w1 ⟨rfl, o1, rfl⟩))
  refine bodyPost_ret (by simp [results, Tryz.results81, go_sem, *]; try rfl) rfl ⟨?_, (by repeat (first | exact Below.refl _ _ | (refine Below.drew ?_) | (refine below_drewN ?_ _) | (refine Below.setCell ?_ (by first | omega | (simp; done) | (simp; omega)) _) | (refine Below.alloc ?_ (by first | omega | (simp; done) | (simp; omega)) _) | (refine Below.trans ?_ (Below.mono (by assumption) (by first | omega | (simp; done) | (simp; omega))))))⟩
  rw [HQ.out]
end Go.Proofs.YthiacdbjlkpfgaaGreatDoor
namespace Go.Proofs.YthiacdbjlkpfgaaGreatDoor
open Go.RowKit
/-- the three boxes of quotients: a, b, what is returned -/
structure Q4 (w W : World) (A : Nat) (a b : Int × Int) : Prop where
  xa : Bx W A a.1 a.2
  xb : Bx W (A + 1) b.1 b.2
  xr : Bz W (A + 1 + 1) 0 0
  bel : Below A w W
theorem Q4.keep {w W W' : World} {A : Nat} {a b : Int × Int} (h : Q4 w W A a b) (hb : Below W.heap.size W W') : Q4 w W' A a b :=
  ⟨h.xa.keep hb, h.xb.keep hb, h.xr.keep hb, h.bel.trans (hb.mono (Nat.le_of_lt h.xa.lt))⟩
theorem Q4.start (w : World) (a b : Int × Int) : Q4 w (((w.alloc (.cells #[.int .i64 a.1, .int .i64 a.2] 30)).alloc (.cells #[.int .i64 b.1, .int .i64 b.2] 30)).alloc (.cells #[.int .i64 0, .int .i64 0] 30)) w.heap.size a b := by
  have h1 := Bx.new w a.1 a.2 30
  have h2 := Bx.new (w.alloc (.cells #[.int .i64 a.1, .int .i64 a.2] 30)) b.1 b.2 30
  have h3 := Bz.new ((w.alloc (.cells #[.int .i64 a.1, .int .i64 a.2] 30)).alloc (.cells #[.int .i64 b.1, .int .i64 b.2] 30)) 0 0 30
  have k : ∀ (x : World) (o : Obj), Below x.heap.size x (x.alloc o) := fun x o => (Below.refl _ _).alloc (Nat.le_refl _) o
  exact ⟨(h1.keep (k _ _)).keep (k _ _), by simpa using h2.keep (k _ _), by simpa using h3, (by repeat (first | exact Below.refl _ _ | (refine Below.drew ?_) | (refine below_drewN ?_ _) | (refine Below.setCell ?_ (by first | omega | (simp; done) | (simp; omega)) _) | (refine Below.alloc ?_ (by first | omega | (simp; done) | (simp; omega)) _) | (refine Below.trans ?_ (Below.mono (by assumption) (by first | omega | (simp; done) | (simp; omega))))))⟩
end Go.Proofs.YthiacdbjlkpfgaaGreatDoor
namespace Go.Proofs.YthiacdbjlkpfgaaGreatDoor
open Go.RowKit
set_option maxRecDepth 100000 in
set_option maxHeartbeats 16000000 in
theorem quots_none (a b : Int × Int) (w : World) (_ha : Sp a) (hb : Sp b) (hA : ¬ (a.1 = -9223372036854775808 ∧ b.1 ≤ -1 ∧ -1 ≤ b.2)) (h1 : ¬ b.1 ≤ -1) (h2 : ¬ 1 ≤ b.2) : Calls Tryz.prog 81 #[.agg #[.int .i64 a.1, .int .i64 a.2], .agg #[.int .i64 b.1, .int .i64 b.2]] w fun e w' => e = .returned (.tuple #[.agg #[.int .i64 ((quotsP a b).1).1, .int .i64 ((quotsP a b).1).2], .bool (quotsP a b).2]) ∧ Below w.heap.size w w' := by
  have HQ : Hid (quotsP a b = ((0, 0), false)) := by unfold Hid quotsP; rw [if_neg hA, if_neg (by omega), if_neg h1, if_neg h2]
  have hM1 := meet_nobelow b hb h1
  have hM2 := meet_noabove b hb h2
  clear hb
  by_cases hL : a.1 = -9223372036854775808
  · have hh : hasR b.1 b.2 (-1) = false := by
      unfold hasR
      rw [Bool.and_eq_false_iff, decide_eq_false_iff_not, decide_eq_false_iff_not]
      omega
    have hd : (a.1 == -9223372036854775808) = true := by rw [hL]; rfl
    clear hA hL
    clear h1 h2
    go_enter Tryz.func81, Tryz.ntmps81
    go_upto_region 3 with ((go_at_call 107; refine (nhas_any _ _ _ _).mono ?_; rintro e w1 ⟨rfl, o1, rfl⟩))
    go_name_world W hW
    have HX : Hid (Q4 w W w.heap.size a b) := by
      rw [← hW]
      first | exact Q4.start w a b | exact (Q4.start w a b).keep (by exact (by repeat (first | exact Below.refl _ _ | (refine Below.drew ?_) | (refine below_drewN ?_ _) | (refine Below.setCell ?_ (by first | omega | (simp; done) | (simp; omega)) _) | (refine Below.alloc ?_ (by first | omega | (simp; done) | (simp; omega)) _) | (refine Below.trans ?_ (Below.mono (by assumption) (by first | omega | (simp; done) | (simp; omega)))))))
    clear hW
    have b0 := HX.out.xb.1
    have b1 := HX.out.xb.2
    obtain ⟨A, hAA⟩ : ∃ A, A = w.heap.size := ⟨_, rfl⟩
    rw [← hAA] at HX b0 b1 ⊢
    have HAA : Hid (A = w.heap.size) := hAA
    clear hAA
    go_upto_region 4 with (go_at_call 68; refine (nmeet_any b (_, _) _).mono ?_; rw [hM1]; rintro e wA ⟨rfl, hA⟩)
    go_name_world W2 hW2
    have HX2 : Hid (Q4 w W2 A a b ∧ Bx W2 wA.heap.size 0 0 ∧ A + 1 + 1 < wA.heap.size) := by
      rw [← hW2]
      exact ⟨(HX.out.keep hA.bel).keep ((Below.refl _ _).alloc (Nat.le_refl _) _), Bx.new _ _ _ _, Nat.lt_of_lt_of_le HX.out.xr.1.lt hA.bel.size⟩
    clear hW2 hA HX b0 b1
    generalize wA.heap.size = T6 at *
    have b0 := HX2.out.1.xb.1
    have b1 := HX2.out.1.xb.2
    go_upto_region 5 with (go_at_call 68; refine (nmeet_any b (_, _) _).mono ?_; rw [hM2]; rintro e wB ⟨rfl, hB⟩)
    go_name_world W3 hW3
    have HX3 : Hid (Q4 w W3 A a b ∧ Bx W3 T6 0 0 ∧ Bx W3 wB.heap.size 0 0 ∧ A + 1 + 1 < T6 ∧ A + 1 + 1 < wB.heap.size) := by
      rw [← hW3]
      exact ⟨(HX2.out.1.keep hB.bel).keep ((Below.refl _ _).alloc (Nat.le_refl _) _), (HX2.out.2.1.keep hB.bel).keep ((Below.refl _ _).alloc (Nat.le_refl _) _), Bx.new _ _ _ _, HX2.out.2.2, Nat.lt_of_lt_of_le HX2.out.1.xr.1.lt hB.bel.size⟩
    clear hW3 hB HX2 b0 b1 hM1 hM2
    generalize wB.heap.size = T8 at *
    have r0 := HX3.out.1.xr.1.1
    have r1 := HX3.out.1.xr.1.2
    have r2 := HX3.out.1.xr.2.1
    have r3 := HX3.out.1.xr.2.2
    have hWQ := HX3.out.1.bel
    go_wp2
    refine bodyPost_ret (by simp [results, Tryz.results81, go_sem, *]; try rfl) rfl ⟨?_, by rw [← HAA.out]; exact (by repeat (first | assumption | (refine Below.drew ?_) | (refine below_drewN ?_ _) | (refine Below.setCell ?_ (by first | omega | (simp; omega)) _) | (refine Below.alloc ?_ (by first | omega | (simp; omega)) _)))⟩
    rw [HQ.out]
  · clear hA
    clear h1 h2
    go_enter Tryz.func81, Tryz.ntmps81
    go_upto_region 3 with ((go_at_call 107; refine (nhas_any _ _ _ _).mono ?_; rintro e w1 ⟨rfl, o1, rfl⟩))
    go_name_world W hW
    have HX : Hid (Q4 w W w.heap.size a b) := by
      rw [← hW]
      first | exact Q4.start w a b | exact (Q4.start w a b).keep (by exact (by repeat (first | exact Below.refl _ _ | (refine Below.drew ?_) | (refine below_drewN ?_ _) | (refine Below.setCell ?_ (by first | omega | (simp; done) | (simp; omega)) _) | (refine Below.alloc ?_ (by first | omega | (simp; done) | (simp; omega)) _) | (refine Below.trans ?_ (Below.mono (by assumption) (by first | omega | (simp; done) | (simp; omega)))))))
    clear hW
    have b0 := HX.out.xb.1
    have b1 := HX.out.xb.2
    obtain ⟨A, hAA⟩ : ∃ A, A = w.heap.size := ⟨_, rfl⟩
    rw [← hAA] at HX b0 b1 ⊢
    have HAA : Hid (A = w.heap.size) := hAA
    clear hAA
    go_upto_region 4 with (go_at_call 68; refine (nmeet_any b (_, _) _).mono ?_; rw [hM1]; rintro e wA ⟨rfl, hA⟩)
    go_name_world W2 hW2
    have HX2 : Hid (Q4 w W2 A a b ∧ Bx W2 wA.heap.size 0 0 ∧ A + 1 + 1 < wA.heap.size) := by
      rw [← hW2]
      exact ⟨(HX.out.keep hA.bel).keep ((Below.refl _ _).alloc (Nat.le_refl _) _), Bx.new _ _ _ _, Nat.lt_of_lt_of_le HX.out.xr.1.lt hA.bel.size⟩
    clear hW2 hA HX b0 b1
    generalize wA.heap.size = T6 at *
    have b0 := HX2.out.1.xb.1
    have b1 := HX2.out.1.xb.2
    go_upto_region 5 with (go_at_call 68; refine (nmeet_any b (_, _) _).mono ?_; rw [hM2]; rintro e wB ⟨rfl, hB⟩)
    go_name_world W3 hW3
    have HX3 : Hid (Q4 w W3 A a b ∧ Bx W3 T6 0 0 ∧ Bx W3 wB.heap.size 0 0 ∧ A + 1 + 1 < T6 ∧ A + 1 + 1 < wB.heap.size) := by
      rw [← hW3]
      exact ⟨(HX2.out.1.keep hB.bel).keep ((Below.refl _ _).alloc (Nat.le_refl _) _), (HX2.out.2.1.keep hB.bel).keep ((Below.refl _ _).alloc (Nat.le_refl _) _), Bx.new _ _ _ _, HX2.out.2.2, Nat.lt_of_lt_of_le HX2.out.1.xr.1.lt hB.bel.size⟩
    clear hW3 hB HX2 b0 b1 hM1 hM2
    generalize wB.heap.size = T8 at *
    have r0 := HX3.out.1.xr.1.1
    have r1 := HX3.out.1.xr.1.2
    have r2 := HX3.out.1.xr.2.1
    have r3 := HX3.out.1.xr.2.2
    have hWQ := HX3.out.1.bel
    go_wp2
    refine bodyPost_ret (by simp [results, Tryz.results81, go_sem, *]; try rfl) rfl ⟨?_, by rw [← HAA.out]; exact (by repeat (first | assumption | (refine Below.drew ?_) | (refine below_drewN ?_ _) | (refine Below.setCell ?_ (by first | omega | (simp; omega)) _) | (refine Below.alloc ?_ (by first | omega | (simp; omega)) _)))⟩
    rw [HQ.out]
end Go.Proofs.YthiacdbjlkpfgaaGreatDoor
namespace Go.Proofs.YthiacdbjlkpfgaaGreatDoor
open Go.RowKit
set_option maxRecDepth 100000 in
set_option maxHeartbeats 16000000 in
theorem quots_below (a b : Int × Int) (w : World) (ha : Sp a) (hb : Sp b) (hA : ¬ (a.1 = -9223372036854775808 ∧ b.1 ≤ -1 ∧ -1 ≤ b.2)) (h1 : b.1 ≤ -1) (h2 : ¬ 1 ≤ b.2) : Calls Tryz.prog 81 #[.agg #[.int .i64 a.1, .int .i64 a.2], .agg #[.int .i64 b.1, .int .i64 b.2]] w fun e w' => e = .returned (.tuple #[.agg #[.int .i64 ((quotsP a b).1).1, .int .i64 ((quotsP a b).1).2], .bool (quotsP a b).2]) ∧ Below w.heap.size w w' := by
  have HQ : Hid (quotsP a b = (quoP a (belowP b), true)) := by unfold Hid quotsP; rw [if_neg hA, if_neg (by omega), if_pos h1]
  have hM1 := meet_below b hb h1
  have hM2 := meet_noabove b hb h2
  have hQ := fun w => quo_any a (belowP b) w ha (sp_below b hb h1).1 (Or.inr (sp_below b hb h1).2) (by unfold belowP Sp at *; dsimp only at *; omega)
  generalize quoP a (belowP b) = r at *
  generalize belowP b = pt at *
  clear ha hb
  by_cases hL : a.1 = -9223372036854775808
  · have hh : hasR b.1 b.2 (-1) = false := by
      unfold hasR
      rw [Bool.and_eq_false_iff, decide_eq_false_iff_not, decide_eq_false_iff_not]
      omega
    have hd : (a.1 == -9223372036854775808) = true := by rw [hL]; rfl
    clear hA hL
    clear h1 h2
    go_enter Tryz.func81, Tryz.ntmps81
    go_upto_region 3 with ((go_at_call 107; refine (nhas_any _ _ _ _).mono ?_; rintro e w1 ⟨rfl, o1, rfl⟩))
    go_name_world W hW
    have HX : Hid (Q4 w W w.heap.size a b) := by
      rw [← hW]
      first | exact Q4.start w a b | exact (Q4.start w a b).keep (by exact (by repeat (first | exact Below.refl _ _ | (refine Below.drew ?_) | (refine below_drewN ?_ _) | (refine Below.setCell ?_ (by first | omega | (simp; done) | (simp; omega)) _) | (refine Below.alloc ?_ (by first | omega | (simp; done) | (simp; omega)) _) | (refine Below.trans ?_ (Below.mono (by assumption) (by first | omega | (simp; done) | (simp; omega)))))))
    clear hW
    have b0 := HX.out.xb.1
    have b1 := HX.out.xb.2
    obtain ⟨A, hAA⟩ : ∃ A, A = w.heap.size := ⟨_, rfl⟩
    rw [← hAA] at HX b0 b1 ⊢
    have HAA : Hid (A = w.heap.size) := hAA
    clear hAA
    go_upto_region 4 with (go_at_call 68; refine (nmeet_any b (_, _) _).mono ?_; rw [hM1]; rintro e wA ⟨rfl, hA⟩)
    go_name_world W2 hW2
    have HX2 : Hid (Q4 w W2 A a b ∧ Bx W2 wA.heap.size pt.1 pt.2 ∧ A + 1 + 1 < wA.heap.size) := by
      rw [← hW2]
      exact ⟨(HX.out.keep hA.bel).keep ((Below.refl _ _).alloc (Nat.le_refl _) _), Bx.new _ _ _ _, Nat.lt_of_lt_of_le HX.out.xr.1.lt hA.bel.size⟩
    clear hW2 hA HX b0 b1
    generalize wA.heap.size = T6 at *
    have b0 := HX2.out.1.xb.1
    have b1 := HX2.out.1.xb.2
    go_upto_region 5 with (go_at_call 68; refine (nmeet_any b (_, _) _).mono ?_; rw [hM2]; rintro e wB ⟨rfl, hB⟩)
    go_name_world W3 hW3
    have HX3 : Hid (Q4 w W3 A a b ∧ Bx W3 T6 pt.1 pt.2 ∧ Bx W3 wB.heap.size 0 0 ∧ A + 1 + 1 < T6 ∧ A + 1 + 1 < wB.heap.size) := by
      rw [← hW3]
      exact ⟨(HX2.out.1.keep hB.bel).keep ((Below.refl _ _).alloc (Nat.le_refl _) _), (HX2.out.2.1.keep hB.bel).keep ((Below.refl _ _).alloc (Nat.le_refl _) _), Bx.new _ _ _ _, HX2.out.2.2, Nat.lt_of_lt_of_le HX2.out.1.xr.1.lt hB.bel.size⟩
    clear hW3 hB HX2 b0 b1 hM1 hM2
    generalize wB.heap.size = T8 at *
    have a0 := HX3.out.1.xa.1
    have a1 := HX3.out.1.xa.2
    have t0 := HX3.out.2.1.1
    have t1 := HX3.out.2.1.2
    go_wp2_with (go_at_call 108; refine (hQ _).mono ?_; rintro e wQ ⟨rfl, hbQ⟩; have KQ := HX3.out.1.keep hbQ; have r0 := KQ.xr.1.1; have r1 := KQ.xr.1.2; have r2 := KQ.xr.2.1; have r3 := KQ.xr.2.2; have hWQ := KQ.bel; clear KQ hbQ)
    clear hQ a0 a1 t0 t1 HX3
    refine bodyPost_ret (by simp [results, Tryz.results81, go_sem, *]; try rfl) rfl ⟨?_, by rw [← HAA.out]; exact (by repeat (first | assumption | (refine Below.drew ?_) | (refine below_drewN ?_ _) | (refine Below.setCell ?_ (by first | omega | (simp; omega)) _) | (refine Below.alloc ?_ (by first | omega | (simp; omega)) _)))⟩
    rw [HQ.out]
  · clear hA
    clear h1 h2
    go_enter Tryz.func81, Tryz.ntmps81
    go_upto_region 3 with ((go_at_call 107; refine (nhas_any _ _ _ _).mono ?_; rintro e w1 ⟨rfl, o1, rfl⟩))
    go_name_world W hW
    have HX : Hid (Q4 w W w.heap.size a b) := by
      rw [← hW]
      first | exact Q4.start w a b | exact (Q4.start w a b).keep (by exact (by repeat (first | exact Below.refl _ _ | (refine Below.drew ?_) | (refine below_drewN ?_ _) | (refine Below.setCell ?_ (by first | omega | (simp; done) | (simp; omega)) _) | (refine Below.alloc ?_ (by first | omega | (simp; done) | (simp; omega)) _) | (refine Below.trans ?_ (Below.mono (by assumption) (by first | omega | (simp; done) | (simp; omega)))))))
    clear hW
    have b0 := HX.out.xb.1
    have b1 := HX.out.xb.2
    obtain ⟨A, hAA⟩ : ∃ A, A = w.heap.size := ⟨_, rfl⟩
    rw [← hAA] at HX b0 b1 ⊢
    have HAA : Hid (A = w.heap.size) := hAA
    clear hAA
    go_upto_region 4 with (go_at_call 68; refine (nmeet_any b (_, _) _).mono ?_; rw [hM1]; rintro e wA ⟨rfl, hA⟩)
    go_name_world W2 hW2
    have HX2 : Hid (Q4 w W2 A a b ∧ Bx W2 wA.heap.size pt.1 pt.2 ∧ A + 1 + 1 < wA.heap.size) := by
      rw [← hW2]
      exact ⟨(HX.out.keep hA.bel).keep ((Below.refl _ _).alloc (Nat.le_refl _) _), Bx.new _ _ _ _, Nat.lt_of_lt_of_le HX.out.xr.1.lt hA.bel.size⟩
    clear hW2 hA HX b0 b1
    generalize wA.heap.size = T6 at *
    have b0 := HX2.out.1.xb.1
    have b1 := HX2.out.1.xb.2
    go_upto_region 5 with (go_at_call 68; refine (nmeet_any b (_, _) _).mono ?_; rw [hM2]; rintro e wB ⟨rfl, hB⟩)
    go_name_world W3 hW3
    have HX3 : Hid (Q4 w W3 A a b ∧ Bx W3 T6 pt.1 pt.2 ∧ Bx W3 wB.heap.size 0 0 ∧ A + 1 + 1 < T6 ∧ A + 1 + 1 < wB.heap.size) := by
      rw [← hW3]
      exact ⟨(HX2.out.1.keep hB.bel).keep ((Below.refl _ _).alloc (Nat.le_refl _) _), (HX2.out.2.1.keep hB.bel).keep ((Below.refl _ _).alloc (Nat.le_refl _) _), Bx.new _ _ _ _, HX2.out.2.2, Nat.lt_of_lt_of_le HX2.out.1.xr.1.lt hB.bel.size⟩
    clear hW3 hB HX2 b0 b1 hM1 hM2
    generalize wB.heap.size = T8 at *
    have a0 := HX3.out.1.xa.1
    have a1 := HX3.out.1.xa.2
    have t0 := HX3.out.2.1.1
    have t1 := HX3.out.2.1.2
    go_wp2_with (go_at_call 108; refine (hQ _).mono ?_; rintro e wQ ⟨rfl, hbQ⟩; have KQ := HX3.out.1.keep hbQ; have r0 := KQ.xr.1.1; have r1 := KQ.xr.1.2; have r2 := KQ.xr.2.1; have r3 := KQ.xr.2.2; have hWQ := KQ.bel; clear KQ hbQ)
    clear hQ a0 a1 t0 t1 HX3
    refine bodyPost_ret (by simp [results, Tryz.results81, go_sem, *]; try rfl) rfl ⟨?_, by rw [← HAA.out]; exact (by repeat (first | assumption | (refine Below.drew ?_) | (refine below_drewN ?_ _) | (refine Below.setCell ?_ (by first | omega | (simp; omega)) _) | (refine Below.alloc ?_ (by first | omega | (simp; omega)) _)))⟩
    rw [HQ.out]
end Go.Proofs.YthiacdbjlkpfgaaGreatDoor
