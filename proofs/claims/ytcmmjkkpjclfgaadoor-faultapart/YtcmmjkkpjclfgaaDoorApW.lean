import Derived.Test.YtcmmjkkpjclfgaaDoorMine
import Derived.Test.YtcmmjkkpjclfgaaDoorInI
namespace Go.Proofs.YtcmmjkkpjclfgaaDoor
open Go.RowKit

structure CopyI (w wc : World) (xs : List Int) (n : Nat) (a : Option Addr) (c : Nat) : Prop where
  own : wc.ownsRow 0 3 1 (.slice a n c) n (I64 xs)
  lo : ∀ q, (Value.slice a n c).ownBlock = some q → w.heap.size ≤ q
  fr : Fr (fun _ => False) w wc

/-- what stays through the last line -/
structure Good (w : World) (xs : List Int) (v6 v7 : Value) (kk : Int) (wx : World) : Prop where
  fr : Fr (fun _ => False) w wx
  e6 : Wraps wx xs v6 (.iface 29 (.int .i64 kk))
  e7 : Wraps wx [7] v7 v6
theorem Good.next {w wx wy : World} {xs : List Int} {v6 v7 : Value} {kk : Int} (h : Good w xs v6 v7 kk wx) (f : Fr (fun _ => False) wx wy) : Good w xs v6 v7 kk wy := ⟨h.fr.trans f, h.e6.fr f, h.e7.fr f⟩
theorem Good.drewN {w wx : World} {xs : List Int} {v6 v7 : Value} {kk : Int} (h : Good w xs v6 v7 kk wx) (j : Nat) : Good w xs v6 v7 kk (wx.drewN j) := h.next (Fr.ofBelow ⟨rfl, rfl, rfl, Nat.le_refl _, fun _ _ => rfl⟩)
theorem Good.drew {w wx : World} {xs : List Int} {v6 v7 : Value} {kk : Int} (h : Good w xs v6 v7 kk wx) : Good w xs v6 v7 kk wx.drew := h.next (Fr.refl _ _).drew
theorem Good.alloc {w wx : World} {xs : List Int} {v6 v7 : Value} {kk : Int} (h : Good w xs v6 v7 kk wx) (o : Obj) : Good w xs v6 v7 kk (wx.alloc o) := h.next ((Fr.refl _ _).alloc o)
theorem Good.tells {w wx : World} {xs : List Int} {v6 v7 : Value} {kk : Int} (hG : Glob w) (h : Good w xs v6 v7 kk wx) : Calls Tryd.prog 16 #[] wx fun e w' => e = .returned (.bool true) ∧ Good w xs v6 v7 kk w' :=
  (tells_any wx (hG.keep h.fr (fun h => h))).mono fun _ _ ⟨h1, h2⟩ => ⟨h1, h.next h2⟩
theorem Good.path6 {w wx : World} {xs : List Int} {v6 v7 : Value} {kk : Int} {n : Nat} (hG : Glob w) (hx : xs.length = n) (hn : n ≤ 20) (h : Good w xs v6 v7 kk wx) : Calls Tryd.prog 19 #[v6] wx fun e w' => ∃ a c, e = .returned (.slice a n c) ∧ Good w xs v6 v7 kk w' ∧ Row w' a (I64 xs) := by
  subst hx
  refine (path_any (noPlace_errno kk) xs v6 wx (hG.keep h.fr (fun h => h)) h.e6 (by omega)).mono ?_
  rintro e w' ⟨a, c, rfl, o, f, _⟩
  exact ⟨a, c, rfl, h.next f, own_row3 o⟩
theorem Good.path7 {w wx : World} {xs : List Int} {v6 v7 : Value} {kk : Int} {n : Nat} (hG : Glob w) (hx : xs.length = n) (hn : n ≤ 20) (h : Good w xs v6 v7 kk wx) :
    Calls Tryd.prog 19 #[v7] wx fun e w' => ∃ g c, e = .returned (.slice (some ⟨g, 0, none⟩) (n + 1) c) ∧ Good w xs v6 v7 kk w' ∧ Row w' (some ⟨g, 0, none⟩) (I64 (7 :: xs)) ∧ wx.heap.size ≤ g ∧ g < w'.heap.size ∧ Fr (fun _ => False) wx w' := by
  subst hx
  refine (path_any (noPlace_errno kk) (7 :: xs) v7 wx (hG.keep h.fr (fun h => h)) (h.e7.trans h.e6) (by simp; omega)).mono ?_
  rintro e w' ⟨a, c, rfl, o, f, l⟩
  have o' := o.2
  rcases o' with ⟨e, e2⟩ | ⟨g, cap, cur, e, _⟩
  · simp at e2
  · have ea : a = some ⟨g, 0, none⟩ := by simp only [Value.slice.injEq] at e; exact e.1
    subst ea
    exact ⟨g, c, rfl, h.next f, own_row3 o, l g rfl, (o.lt g rfl).2, f⟩
theorem Good.same {w wx : World} {xs : List Int} {v6 v7 : Value} {kk : Int} {ys : List Int} {n : Nat} {a b : Option Addr} {c d : Nat} (hx : ys.length = n) (hn : n ≤ 21) (h : Good w xs v6 v7 kk wx) (ha : Row wx a (I64 ys)) (hb : Row wx b (I64 ys)) :
    Calls Tryd.prog 18 #[.slice a n c, .slice b n d] wx fun e w' => e = .returned (.bool true) ∧ Good w xs v6 v7 kk w' := by
  subst hx
  refine (same_any a b c d ys ys wx ha hb (by omega) (by omega)).mono ?_
  rintro e w' ⟨rfl, j, rfl⟩
  exact ⟨by simp, h.drewN j⟩
theorem lit_own {w : World} {g : Nat} (h : w.heap[g]? = some (.cells #[.int .i64 7] 3)) : w.ownsRow 0 3 1 (.slice (some ⟨g, 0, none⟩) 1 1) 1 (I64 [7]) :=
  ⟨by simp [I64], .inr ⟨g, 1, #[.int .i64 7], rfl, Nat.zero_le _, h, Nat.le_refl _, by unfold maxLen; omega, by simp, by simp [I64]⟩⟩
theorem step_append7 {ops : Array Oper} {o : Oper} {a : Act} {w0 w : World} {K : Act → World → Prop} {Q : Exit → Act → World → Prop} {E : Prop} {xs : List Int} {v6 v7 : Value} {kk : Int} (hw : Region.wanted o (yielded ops a.tmps) = true) (s x : Operand)
    (ho : o.op = .call { callee := .builtin .append, args := #[s, x], argTypes := #[25, 25] }) (g : Nat) (hs : a.eval s = .slice (some ⟨g, 0, none⟩) 1 1) (hlit : w.heap[g]? = some (.cells #[.int .i64 7] 3))
    (b : Option Addr) (m cb : Nat) (hx : a.eval x = .slice b m cb) (hb : b = none → cb = 0) (hl : xs.length = m) (hb0 : Row w0 b (I64 xs)) (hm : m ≤ 20) (hg : Good w0 xs v6 v7 kk w) (hlo : w0.heap.size ≤ g) (g9 : Nat) (hr9 : Row w (some ⟨g9, 0, none⟩) (I64 (7 :: xs))) (hne : g9 ≠ g)
    (h : ∀ a' c' w', Row w' a' (I64 (7 :: xs)) → Good w0 xs v6 v7 kk w' → Row w' (some ⟨g9, 0, none⟩) (I64 (7 :: xs)) → K (a.put o.dst (.slice a' (m + 1) c')) w') :
    if Region.wanted o (yielded ops a.tmps) = true then Oper.wp Tryd.prog o a w K Q else E := by
  rw [if_pos hw]
  have hown := lit_own hlit
  obtain ⟨i, hi, hz0, hz1, hz2⟩ := info_parts Tryd.info3p
  rcases row_fr hb0 hg.fr with ⟨rfl, hnil⟩ | ⟨ad, rfl, hc⟩
  · obtain rfl := hb rfl
    have e0 : xs = [] := List.eq_nil_of_length_eq_zero (by rw [← i64_len, hnil]; rfl)
    subst e0
    obtain rfl : m = 0 := by simpa using hl.symm
    have hr := fun ty => run_append_owned_none (P := Tryd.prog) w 0 25 ty 3 i 1 Tryd.underlying25 hi _ _ _ hown
    unfold Oper.wp execOp
    simp only [ho, resolve, invoke, builtin, Sem.run_bind, Sem.run_pure, Result.andThen_ok, List.map_toArray, List.map_cons, List.map_nil, hs, hx, hr]
    exact h _ _ w (own_row3 hown) hg hr9
  · obtain ⟨v', w', hr, h2, h3, h4⟩ := run_append_where (P := Tryd.prog) w 25 o.type 3 i (.int .i64 0) 1 8 Tryd.underlying25 hi hz0 hz1 hz2 rfl (by decide) _ 1 _ hown ad m cb (I64 xs) (by rw [i64_len]; omega) hc (i64_one xs) (by unfold maxLen; omega) (by omega)
    obtain ⟨a', c', rfl⟩ := ownsRow_slice h2
    have f : Fr (fun k => k = g) w w' := (Fr.refl _ w).grown h3 (fun k hk _ => by simp only [Value.ownBlock, Option.some.injEq] at hk; exact hk.symm)
    have hkeep : ∀ (q : Nat) (cs : Array Value), w.heap[q]? = some (Obj.cells cs 114 (0, 0)) → w'.heap[q]? = w.heap[q]? := fun q cs hq => f.block q (heap_lt hq) (fun e => by
      subst e
      rw [hlit] at hq
      simp at hq)
    unfold Oper.wp execOp
    simp only [ho, resolve, invoke, builtin, Sem.run_bind, Sem.run_pure, Result.andThen_ok, List.map_toArray, List.map_cons, List.map_nil, hs, hx, hr]
    rw [Nat.add_comm 1 m] at h2 ⊢
    exact h a' c' w' (own_row3 (by simpa [I64] using h2)) ⟨hg.fr.trans' f (fun _ _ h => h) (fun q hq e => by subst e; omega), hg.e6.keep hkeep, hg.e7.keep hkeep⟩ (hr9.keep f (fun y hy e => by cases hy; exact hne e))
theorem CopyI.keep {w wc w1 : World} {xs : List Int} {n : Nat} {a : Option Addr} {c : Nat} (h : CopyI w wc xs n a c) (f : Fr (fun _ => False) wc w1) : CopyI w w1 xs n a c :=
  ⟨ownsRow_heap h.own (fun q hq => f.block q (h.own.lt q hq).2 (fun h => h)), h.lo, h.fr.trans f⟩
theorem CopyI.mine {w wc : World} {xs : List Int} {n : Nat} {a : Option Addr} {c : Nat} {v6 v7 : Value} {kk : Int} (h : CopyI w wc xs n a c) (hx : xs.length = n) (h6 : Wraps wc xs v6 (.iface 29 (.int .i64 kk))) (h7 : Wraps wc [7] v7 v6) : Mine w wc xs 0 n a c v6 v7 kk :=
  ⟨⟨xs, hx, fun _ _ => rfl, h.own⟩, h.lo, h.fr, h6, h7⟩
theorem copy_append {w w1 : World} {xs : List Int} {n m : Nat} {a' : Option Addr} {c' : Nat} (he : n = m) (ho : w1.ownsRow 0 3 1 (.slice a' m c') m (I64 xs))
    (hf : Fr (fun k => some k = (Value.slice (some ⟨w.heap.size, 0, none⟩) 0 0).ownBlock) (w.alloc (.cells #[] 3)) w1)
    (hw : (Value.slice a' m c').ownBlock = (Value.slice (some ⟨w.heap.size, 0, none⟩) 0 0).ownBlock ∨ (Value.slice a' m c').ownBlock = some (w.heap.size + 1)) : CopyI w w1 xs n a' c' := by
  subst he
  refine ⟨ho, fun q hq => ?_, ((Fr.refl _ w).alloc _).trans' hf (fun _ _ h => h) (fun q hq e => by simp only [Value.ownBlock, Option.some.injEq] at e; omega)⟩
  rcases hw with h | h
  · rw [h] at hq; simp only [Value.ownBlock, Option.some.injEq] at hq; omega
  · rw [h] at hq; simp at hq; omega

set_option maxRecDepth 100000 in
set_option maxHeartbeats 6000000 in
theorem fapart_walk (k : Int) (a0 : Option Addr) (len cap : Nat) (zs : List Int) (w : World) (hG : Glob w) (hin : InI w a0 len cap zs) :
    Calls Tryd.prog 6 #[.int .i64 k, .slice a0 len cap] w fun e w' => e = .returned (.bool true) ∧ Below w.heap.size w w' := by
  obtain ⟨kk, hkk⟩ : ∃ kk, kk = if k = 0 then 9 else k := ⟨_, rfl⟩
  have HK : Hid (kk = if k = 0 then 9 else k) := hkk
  have HG : Hid (Glob w) := hG
  obtain ⟨hi1, hi2, hi3, hi4, hi5, _⟩ := hin
  have b1 : (len : Int) ≤ cap := by omega
  have b2 : (cap : Int) ≤ 140737488355328 := by omega
  obtain ⟨n, hn⟩ : ∃ n, n = min len 20 := ⟨_, rfl⟩
  obtain ⟨xs, hxs⟩ : ∃ xs, xs = zs.take n := ⟨_, rfl⟩
  have HX : Hid (xs.length = n ∧ Row w a0 (I64 xs) ∧ n = min len 20 ∧ n ≤ cap) := by subst hxs; exact ⟨by simp; omega, take_row3 hi1 _, hn, by omega⟩
  have HN : Hid (a0 = none → cap = 0) := hi4
  obtain ⟨i0, hi, hz0, hz1, hz2⟩ := info_parts Tryd.info3p
  have hown : (w.alloc (.cells #[] 3)).ownsRow 0 3 1 (.slice (some ⟨w.heap.size, 0, none⟩) 0 0) 0 [] := World.ownsRow_lit w #[] 0 (Nat.zero_le _) (Nat.zero_le _) rfl
  clear hkk hG hi1 hi2 hi3 hi4 hi5 hn hxs
  go_enter Tryd.func6, Tryd.ntmps6
  go_upto_if 12 with fail
  go_cut [0] (fun v wx => w = wx ∧ v = .int .i64 kk)
  case first =>
    clear hi hown
    by_cases h0 : k = 0
    · have HKE : Hid (kk = 9) := by have := HK.out; rw [if_pos h0] at this; exact this
      have h0' : (k == 0) = true := by simp [h0]
      have H0 : Hid (k = 0) := h0
      clear h0
      go_wp2
      go_meet
      case rel => exact ⟨rfl, by rw [HKE.out]⟩
    · have HKE : Hid (kk = k) := by have := HK.out; rw [if_neg h0] at this; exact this
      have h0' : (k == 0) = false := by simp [h0]
      go_wp2
      go_meet
      case rel => exact ⟨rfl, by rw [HKE.out]⟩
  case rest =>
    obtain ⟨rfl, rfl⟩ := hcut
    go_upto_region 3 with fail
    go_cut [5] (fun v wx => ∃ a' c', v = .slice a' n c' ∧ Hid (CopyI w wx xs n a' c'))
    case first =>
      have hrow : Row (w.alloc (.cells #[] 3)) a0 (I64 xs) := row_fr HX.out.2.1 ((Fr.refl _ _).alloc _)
      rcases a0 with _ | x
      · obtain rfl := HN.out rfl
        obtain rfl : len = 0 := by omega
        have HE : Hid (n = 0) := by have := HX.out.2.2.2; unfold Hid; omega
        have HL : Hid ((I64 xs).length = 0) := by unfold Hid; rw [i64_len, HX.out.1]; exact HE.out
        have HM1 : Hid (0 + 0 ≤ maxLen) := by unfold Hid maxLen; omega
        have HM2 : Hid ((0 + 0) * 8 ≤ 140737488355328) := by unfold Hid; omega
        have HNN : Hid ((none : Option Addr) = none → 0 = 0) := fun _ => rfl
        go_wp2_with (at_builtin; refine wpList_append_row _ rfl (.tmp 13) (.tmp 18) 25 rfl 3 i0 (.int .i64 0) 8 Tryd.underlying25 hi hz0 hz1 hz2 rfl (some ⟨w.heap.size, 0, none⟩) 0 0 [] rfl hown none 0 0 (I64 xs) rfl HNN.out HL.out hrow (i64_one xs) HM1.out HM2.out ?_)
        intro a' c' w1 ho hf hwh
        have R : Hid (CopyI w w1 xs n a' c') := copy_append HE.out ho hf hwh
        clear hi ho hf hwh hown hrow
        go_wp2
        go_meet
        case rel => exact ⟨a', c', by rw [HE.out], R⟩
      · have HNN : Hid (some x = none → cap = 0) := fun h => by cases h
        by_cases h20 : len ≤ 20
        · have HE : Hid (n = len) := by have := HX.out.2.2.1; unfold Hid; omega
          have HL : Hid ((I64 xs).length = len) := by unfold Hid; rw [i64_len, HX.out.1]; exact HE.out
          have HM1 : Hid (0 + len ≤ maxLen) := by unfold Hid maxLen; omega
          have HM2 : Hid ((0 + len) * 8 ≤ 140737488355328) := by unfold Hid; omega
          have h20' : ¬ (20 : Int) < len := by omega
          go_wp2_with (at_builtin; refine wpList_append_row _ rfl (.tmp 13) (.tmp 18) 25 rfl 3 i0 (.int .i64 0) 8 Tryd.underlying25 hi hz0 hz1 hz2 rfl (some ⟨w.heap.size, 0, none⟩) 0 0 [] rfl hown (some x) len cap (I64 xs) rfl HNN.out HL.out hrow (i64_one xs) HM1.out HM2.out ?_)
          intro a' c' w1 ho hf hwh
          have R : Hid (CopyI w w1 xs n a' c') := copy_append HE.out ho hf hwh
          clear hi ho hf hwh hown hrow
          go_wp2
          go_meet
          case rel => exact ⟨a', c', by rw [HE.out], R⟩
        · have HE : Hid (n = 20) := by have := HX.out.2.2.1; unfold Hid; omega
          have HL : Hid ((I64 xs).length = 20) := by unfold Hid; rw [i64_len, HX.out.1]; exact HE.out
          have HM1 : Hid (0 + 20 ≤ maxLen) := by unfold Hid maxLen; omega
          have HM2 : Hid ((0 + 20) * 8 ≤ 140737488355328) := by unfold Hid; omega
          have h20' : (20 : Int) < len := by omega
          have h20c : (20 : Int) ≤ cap := by omega
          go_wp2_with (at_builtin; refine wpList_append_row _ rfl (.tmp 13) (.tmp 18) 25 rfl 3 i0 (.int .i64 0) 8 Tryd.underlying25 hi hz0 hz1 hz2 rfl (some ⟨w.heap.size, 0, none⟩) 0 0 [] rfl hown (some x) 20 cap (I64 xs) rfl HNN.out HL.out hrow (i64_one xs) HM1.out HM2.out ?_)
          intro a' c' w1 ho hf hwh
          have R : Hid (CopyI w w1 xs n a' c') := copy_append HE.out ho hf hwh
          clear hi ho hf hwh hown hrow
          go_wp2
          go_meet
          case rel => exact ⟨a', c', by rw [HE.out], R⟩
    case rest =>
      obtain ⟨a', c', rfl, hC⟩ := hcut
      have D := at_any xs 29 (.int .i64 kk) a' c' wc (own_row3 hC.out.own) (by have := HX.out; omega)
      rw [HX.out.1] at D
      have HB : Hid (n ≤ 20) := by have := HX.out.2.2.1; unfold Hid; omega
      have hn20 : (n : Int) ≤ 20 := by have := HB.out; omega
      clear hi hown hz0 hz1 hz2 HK
      go_wp2_with fail
      refine D.mono ?_
      rintro e w1 ⟨v6, rfl, hv6, hf1⟩
      obtain ⟨T6, x6, rfl⟩ := hv6.iface
      have H1 : Hid (CopyI w w1 xs n a' c' ∧ Wraps w1 xs (.iface T6 x6) (.iface 29 (.int .i64 kk))) := ⟨hC.out.keep hf1, hv6⟩
      clear D hv6 hf1 hC
      go_wp2_with fail
      refine (at_any [7] T6 x6 (some ⟨w1.heap.size, 0, none⟩) 1 (w1.alloc (.cells (I64 [7]).toArray 3)) (new_row3 w1 [7]) (by simp)).mono ?_
      rintro e w2 ⟨v7, rfl, hv7, hf2⟩
      obtain ⟨T7, x7, rfl⟩ := hv7.iface
      have H2 : Hid (Mine w w2 xs 0 n a' c' (.iface T6 x6) (.iface T7 x7) kk) := by
        have f : Fr (fun _ => False) w1 w2 := ((Fr.refl _ w1).alloc _).trans hf2
        exact (H1.out.1.keep f).mine HX.out.1 (H1.out.2.fr f) hv7
      clear hv7 hf2 H1
      generalize hv6 : Value.iface T6 x6 = v6 at *
      generalize hv7 : Value.iface T7 x7 = v7 at *
      go_wp2_with fail
      go_loopw [8] (fun i wr => ∃ k : Nat, i = .int .i64 k ∧ k ≤ n ∧ Hid (Mine w wr xs k n a' c' v6 v7 kk)) (fun i _ => n - (intOf i).toNat)
      case atStart => exact ⟨0, rfl, Nat.zero_le _, H2⟩
      case round =>
        obtain ⟨k, rfl, hk, hM⟩ := hrel
        by_cases hlt : k < n
        · obtain ⟨kb, z, rfl, hz, hc, hf, _⟩ := hM.out.at HX.out.1 hlt
          have HNX : Hid (∀ j u, Mine w ((wr.drewN j).setCell ⟨kb, k, none⟩ (.int .i64 u)) xs (k + 1) n (some ⟨kb, 0, none⟩) c' v6 v7 kk) := fun j u => by
            obtain ⟨kb', z', e, _, _, _, hn⟩ := (hM.out.drewN j).at HX.out.1 hlt
            cases e
            exact hn u
          have hp : (I64 xs)[k]? = some (.int .i64 z) := by simp [I64, hz]
          obtain ⟨b, o, rfl, hcell⟩ := (row_fr HX.out.2.1 hM.out.fr).at hp
          have i1 : (k : Int) < n := by omega
          have i2 : (k : Int) < len := by have := HX.out.2.2.1; omega
          have i3 : (0 : Int) ≤ k := by omega
          have hne : (z != z) = false := by simp
          clear H2 hM hp hz
          go_wp2
          go_quiet (fail)
          go_wp2
          go_roundw
          case rel => exact ⟨k + 1, by go_num, by omega, HNX.out _ _⟩
          case measure => simp [intOf]; omega
        · have i1 : ¬ (k : Int) < n := by omega
          clear H2
          subst hv6
          go_wp2_with fail
          refine (path_any (noPlace_errno kk) xs (.iface T6 x6) wr (HG.out.keep hM.out.fr (fun h => h)) hM.out.e6 (by have := HX.out.1; have := HB.out; omega)).mono ?_
          rintro e w4 ⟨a9, c9, rfl, o9, f9, l9⟩
          rw [HX.out.1] at o9 l9
          rw [HX.out.1]
          have H4 : Hid (Mine w w4 xs 0 n a9 c9 (.iface T6 x6) v7 kk) :=
            ⟨⟨xs, HX.out.1, fun _ _ => rfl, o9⟩, fun q hq => Nat.le_trans hM.out.fr.size (l9 q hq), hM.out.fr.trans f9, hM.out.e6.fr f9, hM.out.e7.fr f9⟩
          clear o9 f9 l9 hM
          go_wp2_with fail
          go_loopw [10] (fun i wr => ∃ k : Nat, i = .int .i64 k ∧ k ≤ n ∧ Hid (Mine w wr xs k n a9 c9 (.iface T6 x6) v7 kk)) (fun i _ => n - (intOf i).toNat)
          case atStart => exact ⟨0, rfl, Nat.zero_le _, H4⟩
          case round =>
            obtain ⟨m, rfl, hm, hM⟩ := hrel
            by_cases hlt : m < n
            · obtain ⟨kb, z, rfl, hz, hc, hf, hnext⟩ := hM.out.at HX.out.1 hlt
              have HNX : Hid (∀ u, Mine w (wr.setCell ⟨kb, m, none⟩ (.int .i64 u)) xs (m + 1) n (some ⟨kb, 0, none⟩) c9 (.iface T6 x6) v7 kk) := hnext
              have j1 : (m : Int) < n := by omega
              have j3 : (0 : Int) ≤ m := by omega
              clear H4 hM hz hnext
              go_wp2
              go_roundw
              case rel => exact ⟨m + 1, by go_num, by omega, HNX.out _⟩
              case measure => simp [intOf]; omega
            · have j1 : ¬ (m : Int) < n := by omega
              have hg5 : Good w xs (.iface T6 x6) v7 kk wr := ⟨hM.out.fr, hM.out.e6, hM.out.e7⟩
              subst hv7
              clear H4 hM
              have A16 : ∀ wx, Good w xs (.iface T6 x6) (.iface T7 x7) kk wx → _ := fun wx h => Good.tells HG.out h
              have A6 : ∀ wx, Good w xs (.iface T6 x6) (.iface T7 x7) kk wx → _ := fun wx h => Good.path6 HG.out HX.out.1 HB.out h
              have A7 : ∀ wx, Good w xs (.iface T6 x6) (.iface T7 x7) kk wx → _ := fun wx h => Good.path7 HG.out HX.out.1 HB.out h
              have A18 : ∀ wx a c d, Good w xs (.iface T6 x6) (.iface T7 x7) kk wx → Row wx a (I64 xs) → Calls Tryd.prog 18 #[.slice a n c, .slice a0 n d] wx fun e w' => e = .returned (.bool true) ∧ Good w xs (.iface T6 x6) (.iface T7 x7) kk w' :=
                fun wx a c d h hr => Good.same HX.out.1 (by have := HB.out; omega) h hr (row_fr HX.out.2.1 h.fr)
              have q1 : (n : Int) ≤ len := by have := HX.out.2.2.1; omega
              have q2 : (n : Int) ≤ cap := by omega
              have A18' : ∀ wx a b c d, Good w xs (.iface T6 x6) (.iface T7 x7) kk wx → Row wx a (I64 (7 :: xs)) → Row wx b (I64 (7 :: xs)) → Calls Tryd.prog 18 #[.slice a (n + 1) c, .slice b (n + 1) d] wx fun e w' => e = .returned (.bool true) ∧ Good w xs (.iface T6 x6) (.iface T7 x7) kk w' :=
                fun wx a b c d h hr hr' => Good.same (by have := HX.out.1; simp; omega) (by have := HB.out; omega) h hr hr'
              rcases a0 with _ | x
              · obtain rfl := HN.out rfl
                obtain rfl : len = 0 := by omega
                obtain rfl : n = 0 := by have := HX.out.2.2.2; omega
                obtain rfl : xs = [] := List.eq_nil_of_length_eq_zero HX.out.1
                have A18n : ∀ wx a g c, Good w [] (.iface T6 x6) (.iface T7 x7) kk wx → Row wx a (I64 [7]) → wx.heap[g]? = some (.cells #[.int .i64 7] 3) → Calls Tryd.prog 18 #[.slice a 1 c, .slice (some ⟨g, 0, none⟩) 1 1] wx fun e w' => e = .returned (.bool true) ∧ Good w [] (.iface T6 x6) (.iface T7 x7) kk w' :=
                  fun wx a g c h hr hg => Good.same rfl (by omega) h hr (own_row3 (lit_own hg))
                clear A18'
                go_wp2_with fail
                go_region_held3 (fun _ => True) (trivial) ((first
                  | (go_at_call 16; refine (A16 _ (by repeat (first | assumption | apply Good.drewN | apply Good.drew | apply Good.alloc))).mono ?_; rintro e w5 ⟨rfl, hg6⟩)
                  | (go_at_call_of 19 T6; refine (A6 _ (by repeat (first | assumption | apply Good.drewN | apply Good.drew | apply Good.alloc))).mono ?_; rintro e w7 ⟨a7, c7, rfl, hg7, hr7⟩)
                  | (go_at_call_of 19 T7; refine (A7 _ (by repeat (first | assumption | apply Good.drewN | apply Good.drew | apply Good.alloc))).mono ?_; rintro e w9 ⟨g9, c9, rfl, hg9, hr9, hl9, hs9, hf9⟩)
                  | (go_at_call_of 18 (Value.slice none 0 0); refine (A18 _ _ _ _ (by repeat (first | assumption | apply Good.drewN | apply Good.drew | apply Good.alloc)) (by assumption)).mono ?_; rintro e w8 ⟨rfl, hg8⟩)
                  | (go_at_call 18; refine (A18n _ _ _ _ (by repeat (first | assumption | apply Good.drewN | apply Good.drew | apply Good.alloc)) (by first | exact hr9 | exact row_fr hr9 ((Fr.refl _ _).alloc _)) (by first | exact heap_alloc_new _ _ | exact hf9.heap (heap_alloc_new _ _) (fun h => h))).mono ?_; rintro e w8 ⟨rfl, hg8⟩)
                  | fail))
                all_goals (go_wp2; go_ret; exact ⟨rfl, hg8.fr.below (Nat.le_refl _) (fun _ h => h.elim)⟩)
              · have HR0 : Hid (Row w (some x) (I64 xs)) := HX.out.2.1
                have HNN : Hid (some x = none → cap = 0) := fun h => by cases h
                go_wp2_with fail
                go_region_held3 (fun _ => True) (trivial) ((first
                  | (go_at_call 16; refine (A16 _ (by repeat (first | assumption | apply Good.drewN | apply Good.drew | apply Good.alloc))).mono ?_; rintro e w5 ⟨rfl, hg6⟩)
                  | (go_at_call_of 19 T6; refine (A6 _ (by repeat (first | assumption | apply Good.drewN | apply Good.drew | apply Good.alloc))).mono ?_; rintro e w7 ⟨a7, c7, rfl, hg7, hr7⟩)
                  | (go_at_call_of 19 T7; refine (A7 _ (by repeat (first | assumption | apply Good.drewN | apply Good.drew | apply Good.alloc))).mono ?_; rintro e w9 ⟨g9, c9, rfl, hg9, hr9, hl9, hs9, hf9⟩)
                  | (go_at_call_of 18 x; refine (A18 _ _ _ _ (by repeat (first | assumption | apply Good.drewN | apply Good.drew | apply Good.alloc)) (by assumption)).mono ?_; rintro e w8 ⟨rfl, hg8⟩)
                  | (go_at_call 18; refine (A18' _ _ _ _ _ (by repeat (first | assumption | apply Good.drewN | apply Good.drew | apply Good.alloc)) (by assumption) (by assumption)).mono ?_; rintro e w8 ⟨rfl, hg8⟩)
                  | (refine step_append7 (v6 := .iface T6 x6) (v7 := .iface T7 x7) (kk := kk) (xs := xs) (w0 := w) (by rfl) (.tmp 79) (.tmp 83) (by rfl) _ (by rfl) (heap_alloc_new _ _) (some x) n cap (by rfl) HNN.out HX.out.1 HR0.out HB.out (by repeat (first | assumption | apply Good.drewN | apply Good.drew | apply Good.alloc)) hg9.fr.size g9 (row_fr hr9 ((Fr.refl _ _).alloc _)) (Nat.ne_of_lt hs9) ?_; intro a10 c10 w10 hr10 hg10 hr11)
                  | (refine step_append7 (v6 := .iface T6 x6) (v7 := .iface T7 x7) (kk := kk) (xs := xs) (w0 := w) (by rfl) (.tmp 79) (.tmp 83) (by rfl) _ (by rfl) (hf9.heap (heap_alloc_new _ _) (fun h => h)) (some x) n cap (by rfl) HNN.out HX.out.1 HR0.out HB.out (by repeat (first | assumption | apply Good.drewN | apply Good.drew | apply Good.alloc)) hg8.fr.size g9 hr9 (by simp at hl9; omega) ?_; intro a10 c10 w10 hr10 hg10 hr11)
                  | fail))
                all_goals (go_wp2; go_ret; exact ⟨rfl, hg8.fr.below (Nat.le_refl _) (fun _ h => h.elim)⟩)
end Go.Proofs.YtcmmjkkpjclfgaaDoor
