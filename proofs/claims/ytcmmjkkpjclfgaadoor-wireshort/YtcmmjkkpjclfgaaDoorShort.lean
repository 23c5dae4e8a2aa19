import Derived.Test.YtcmmjkkpjclfgaaDoorSec
import Derived.Test.YtcmmjkkpjclfgaaDoorSame
import Derived.Test.YtcmmjkkpjclfgaaDoorErrIs
import Derived.Deep.DeepCutAuto
namespace Go.Proofs.YtcmmjkkpjclfgaaDoor
open Go.RowKit

theorem Row.below1 {w w' : World} {a : Option Addr} {vs : List Value} (h : Row w a vs) (b : Below w.heap.size w w') : Row w' a vs := by
  rcases h with h | ⟨x, rfl, h⟩
  · exact .inl h
  · exact .inr ⟨x, rfl, fun j u hj => (b.cell (World.block_lt_of_cell? _ _ (h j u hj))).trans (h j u hj)⟩
theorem take_row1 {w : World} {a : Option Addr} {ys : List UInt8} (h : Row w a (B8 ys)) (m : Nat) : Row w a (B8 (ys.take m)) := by
  rcases h with ⟨rfl, h⟩ | ⟨x, rfl, h⟩
  · have e : ys = [] := List.eq_nil_of_length_eq_zero (by rw [← B8_length, h]; rfl)
    exact .inl ⟨rfl, by simp [e, B8]⟩
  · refine .inr ⟨x, rfl, fun j u hj => h j u ?_⟩
    simp only [B8, List.getElem?_map, List.getElem?_take] at hj ⊢
    split at hj
    · exact hj
    · simp at hj
/-- a slice that can be read and holds something lies in the memory that was there -/
theorem row_lt {w : World} {a : Option Addr} {xs : List UInt8} (h : Row w a (B8 xs)) (hx : xs ≠ []) : ∀ x, a = some x → x.block < w.heap.size := by
  rintro x rfl
  rcases h with ⟨h, _⟩ | ⟨x', e, h⟩
  · cases h
  · cases e
    cases xs with
    | nil => exact absurd rfl hx
    | cons y ys =>
      have := World.block_lt_of_cell? _ _ (h 0 _ rfl)
      simpa [Addr.add] using this

/-- two Writers of the call's own -/
structure Pair (w wi : World) (g1 : Nat) (r1 : Option Nat) (b1 : List UInt8) (g2 : Nat) (r2 : Option Nat) (b2 : List UInt8) : Prop where
  t1 : Wtr wi g1 r1 b1
  t2 : Wtr wi g2 r2 b2
  be : Below w.heap.size w wi
  lo : w.heap.size ≤ g1 ∧ w.heap.size ≤ g2 ∧ g1 ≠ g2
  lr : (∀ k, r1 = some k → w.heap.size ≤ k ∧ k ≠ g2) ∧ ∀ k, r2 = some k → w.heap.size ≤ k ∧ k ≠ g1 ∧ r1 ≠ some k

theorem Pair.quiet {w wi wj : World} {g1 g2 : Nat} {r1 r2 : Option Nat} {b1 b2 : List UInt8} (h : Pair w wi g1 r1 b1 g2 r2 b2) (f : Fr (fun _ => False) wi wj) : Pair w wj g1 r1 b1 g2 r2 b2 :=
  ⟨h.t1.keep f (fun h => h) (fun _ _ h => h), h.t2.keep f (fun h => h) (fun _ _ h => h), h.be.trans (f.below h.be.size (fun _ hk => hk.elim)), h.lo, h.lr⟩
theorem pair_step {w wi wj : World} {g1 g2 : Nat} {r1 r4 : Option Nat} {b1 b2 : List UInt8} (h : Pair w wi g1 r1 b1 g2 none []) (t : Wtr wj g2 r4 b2) (f : Fr (fun k => k = g2 ∨ some k = none) wi wj) (x : RowTo wi none r4) : Pair w wj g1 r1 b1 g2 r4 b2 := by
  have hlt := h.t1.lt
  refine ⟨h.t1.keep f ?_ (fun k hk => ?_), t, h.be.trans (f.below h.be.size ?_), h.lo, ⟨h.lr.1, fun k hk => ?_⟩⟩
  · rintro (e | e)
    · exact h.lo.2.2 e
    · cases e
  · rintro (e | e)
    · exact (h.lr.1 k hk).2 e
    · cases e
  · rintro k (e | e)
    · subst e; exact h.lo.2.1
    · cases e
  · rcases x with e | ⟨k', e, hk'⟩
    · rw [e] at hk; cases hk
    · rw [e] at hk; cases hk
      have := h.be.size
      exact ⟨by omega, by have := hlt.1; omega, fun e2 => by have := hlt.2 _ e2; omega⟩

theorem mod_idx (z : Int) (l : Nat) (h0 : 0 < l) (h1 : l ≤ 1000) : 0 ≤ wrap64 ((IntKind.u64.wrap z).tmod l) ∧ wrap64 ((IntKind.u64.wrap z).tmod l) < l := by
  rw [IntKind.wrap_u64]
  have hz : 0 ≤ z % 18446744073709551616 := Int.emod_nonneg _ (by decide)
  rw [Int.tmod_eq_emod_of_nonneg hz]
  have a1 := Int.emod_nonneg (z % 18446744073709551616) (show (l : Int) ≠ 0 by omega)
  have a2 := Int.emod_lt_of_pos (z % 18446744073709551616) (show (0 : Int) < l by omega)
  unfold wrap64
  omega

set_option maxRecDepth 100000 in
set_option maxHeartbeats 1000000 in
theorem short_walk (n : Nat) (hn : n < 18446744073709551616) (a0 : Option Addr) (len cap : Nat) (ys : List UInt8) (at_ : Int) (w : World) (hG : Glob w) (hin : Row w a0 (B8 ys)) (hcap : ys.length = cap) (hlen : len ≤ cap) (hnil : a0 = none → cap = 0) (hmax : cap ≤ 140737488355328) :
    Calls Tryd.prog 10 #[.int .u64 n, .slice a0 len cap, .int .i64 at_] w fun e w' => e = .returned (.bool true) ∧ Below w.heap.size w w' := by
  have HG : Hid (Glob w) := hG
  have HNN : Hid (n < 18446744073709551616) := hn
  have b1 : (len : Int) ≤ cap := by omega
  have b2 : (cap : Int) ≤ 140737488355328 := by omega
  obtain ⟨xs, hxs⟩ : ∃ xs, xs = ys.take (min len 300) := ⟨_, rfl⟩
  have HX : Hid (xs.length = min len 300 ∧ Row w a0 (B8 xs)) := by subst hxs; exact ⟨by simp; omega, take_row1 hin _⟩
  have HN : Hid (a0 = none → cap = 0) := hnil
  obtain ⟨xx, hxx⟩ : ∃ xx, xx = lebF 9 n := ⟨_, rfl⟩
  obtain ⟨yy, hyy⟩ : ∃ yy, yy = lebF 9 xs.length ++ xs := ⟨_, rfl⟩
  have HXX : Hid (xx = lebF 9 n) := hxx
  have HYY : Hid (yy = lebF 9 xs.length ++ xs) := hyy
  clear hG hin hcap hnil hmax hxs hlen hn hxx hyy
  go_enter Tryd.func10, Tryd.ntmps10
  go_wp2_with fail
  refine (new_any w).mono ?_
  rintro e w1 ⟨rfl, h1⟩
  have S1 : Hid (Wtr w1 w.heap.size none [] ∧ Below w.heap.size w w1 ∧ w1.heap.size = w.heap.size + 1) := by
    rw [h1]; exact ⟨wtr_new w, (Below.refl _ _).alloc (Nat.le_refl _) _, by simp⟩
  clear h1
  go_wp2_with fail
  refine (new_any w1).mono ?_
  rintro e w2 ⟨rfl, h2⟩
  have S2 : Hid (Wtr w2 w.heap.size none [] ∧ Wtr w2 w1.heap.size none [] ∧ Below w.heap.size w w2 ∧ w.heap.size < w1.heap.size ∧ w2.heap.size = w1.heap.size + 1) := by
    obtain ⟨a1, a2, a3⟩ := S1.out
    have f : Fr (fun _ => False) w1 w2 := by rw [h2]; exact (Fr.refl _ _).alloc _
    exact ⟨a1.keep f (fun h => h) (fun _ _ h => h), by rw [h2]; exact wtr_new w1, a2.trans (f.below a2.size (fun _ hk => hk.elim)), by omega, by rw [h2]; simp⟩
  clear h2 S1
  generalize w1.heap.size = g2 at *
  go_wp2_with fail
  refine (uint_any w.heap.size none [] n w2 S2.out.1 HNN.out (by simp)).mono ?_
  rintro e w3 ⟨rfl, h3⟩
  obtain ⟨r3, t3, f3, x3⟩ := h3
  rw [List.nil_append, ← HXX.out] at t3
  have S3 : Hid (Pair w w3 w.heap.size r3 xx g2 none []) := by
    obtain ⟨a1, a2, a3, a4, a5⟩ := S2.out
    refine ⟨t3, a2.keep f3 ?_ (fun _ h => by cases h), a3.trans (f3.below a3.size ?_), ⟨Nat.le_refl _, by omega, by omega⟩, ⟨fun k hk => ?_, fun k hk => by cases hk⟩⟩
    · rintro (h | h)
      · omega
      · cases h
    · rintro k (h | h)
      · omega
      · cases h
    · rcases x3 with h | ⟨k', h, hk'⟩
      · rw [h] at hk; cases hk
      · rw [h] at hk; cases hk; omega
  clear t3 f3 x3 S2
  go_upto_region 3 with fail
  go_cut [26] (fun u wx => u = .tuple #[] ∧ ∃ r2, Hid (Pair w wx w.heap.size r3 xx g2 r2 yy))
  case first =>
    have hl300 : xs.length ≤ 300 := by have := HX.out.1; omega
    have D : ∀ m, m = xs.length → Calls Tryd.prog 32 #[.pointer (some ⟨g2, 0, none⟩), .slice a0 m cap] w3 fun e w' => e = .returned (.tuple #[]) ∧ ∃ r2, Hid (Pair w w' w.heap.size r3 xx g2 r2 yy) := by
      rintro m rfl
      have hP := S3.out
      refine (wsec_any g2 none [] xs a0 cap w3 hP.t2 (fun w' f => ?_) HN.out (by simp; omega)).mono ?_
      · by_cases hne : xs = []
        · subst hne
          rcases HX.out.2 with h | ⟨x, h, _⟩
          · exact .inl h
          · exact .inr ⟨x, h, by simp [B8]⟩
        · refine (HX.out.2.below1 hP.be).keep f (fun x hx h => ?_)
          have := row_lt HX.out.2 hne x hx
          rcases h with h | h
          · have := hP.lo.2.1; omega
          · cases h
      · rintro e w4 ⟨rfl, r4, t4, f4, x4⟩
        exact ⟨rfl, r4, pair_step hP (by rw [HYY.out]; simpa using t4) f4 x4⟩
    have HD : Hid (∀ m, m = xs.length → Calls Tryd.prog 32 #[.pointer (some ⟨g2, 0, none⟩), .slice a0 m cap] w3 fun e w' => e = .returned (.tuple #[]) ∧ ∃ r2, Hid (Pair w w' w.heap.size r3 xx g2 r2 yy)) := D
    clear D hl300
    by_cases h300 : len ≤ 300
    · have h300' : ¬ (300 : Int) < len := by omega
      have HE : Hid (len = xs.length) := by have := HX.out.1; unfold Hid; omega
      rcases a0 with _ | x
      · obtain rfl := HN.out rfl
        obtain rfl : len = 0 := by omega
        go_wp2_with fail
        refine (HD.out 0 HE.out).mono ?_
        rintro e w4 ⟨rfl, r4, h4⟩
        go_wp2
        go_meet
        case rel => exact ⟨rfl, r4, h4⟩
      · go_wp2_with fail
        refine (HD.out len HE.out).mono ?_
        rintro e w4 ⟨rfl, r4, h4⟩
        go_wp2
        go_meet
        case rel => exact ⟨rfl, r4, h4⟩
    · have h300' : (300 : Int) < len := by omega
      have HE : Hid (300 = xs.length) := by have := HX.out.1; unfold Hid; omega
      rcases a0 with _ | x
      · exact absurd (HN.out rfl) (by omega)
      · go_wp2_with fail
        refine (HD.out 300 HE.out).mono ?_
        rintro e w4 ⟨rfl, r4, h4⟩
        go_wp2
        go_meet
        case rel => exact ⟨rfl, r4, h4⟩
  case rest =>
    obtain ⟨rfl, r2, hP⟩ := hcut
    have hl300 : Hid (xs.length ≤ 300) := by have := HX.out.1; unfold Hid; omega
    have hln : 1 ≤ xx.length ∧ xx.length ≤ 10 := by rw [HXX.out]; exact lebF_length 9 n
    have hlm : 1 ≤ yy.length ∧ yy.length ≤ 310 := by have := lebF_length 9 xs.length; have := hl300.out; rw [HYY.out]; simp; omega
    have HLN : Hid (1 ≤ xx.length ∧ xx.length ≤ 10) := hln
    have HLM : Hid (1 ≤ yy.length ∧ yy.length ≤ 310) := hlm
    clear hln hlm S3 HN b1 b2
    go_wp2_with fail
    refine (bytes_any w.heap.size r3 xx wc hP.out.t1 (by have := HLN.out; omega)).mono ?_
    rintro e w5 ⟨rfl, h5⟩
    have S5 : Hid (Pair w w5 w.heap.size r3 xx g2 r2 yy ∧ w5.heap[wc.heap.size]? = some (rowObj xx)) := by
      rw [h5]; exact ⟨hP.out.quiet ((Fr.refl _ _).alloc _), heap_alloc_new wc _⟩
    clear h5 hP
    generalize wc.heap.size = kx at *
    go_wp2_with fail
    refine (bytes_any g2 r2 yy w5 S5.out.1.t2 (by have := HLM.out; omega)).mono ?_
    rintro e w6 ⟨rfl, h6⟩
    have S6 : Hid (Below w.heap.size w w6 ∧ w6.heap[kx]? = some (rowObj xx) ∧ w6.heap[w5.heap.size]? = some (rowObj yy)) := by
      have f6 : Fr (fun _ => False) w5 w6 := by rw [h6]; exact (Fr.refl _ _).alloc _
      exact ⟨(S5.out.1.quiet f6).be, f6.heap S5.out.2 (fun h => h), by rw [h6]; exact heap_alloc_new w5 _⟩
    clear h6 S5
    generalize w5.heap.size = ky at *
    go_wp2_with fail
    refine (lays_any w6 ((S6.out.1.cell HG.out.lt).trans HG.out)).mono ?_
    rintro e w7 ⟨rfl, h7⟩
    have S7 : Hid (Below w.heap.size w w7 ∧ w7.heap[kx]? = some (rowObj xx) ∧ w7.heap[ky]? = some (rowObj yy)) := by
      have f7 : Fr (fun _ => False) w6 w7 := Fr.ofBelow h7
      exact ⟨S6.out.1.trans (h7.mono S6.out.1.size), f7.heap S6.out.2.1 (fun h => h), f7.heap S6.out.2.2 (fun h => h)⟩
    clear h7 S6
    have d1 : (0 : Int) < xx.length := by have := HLN.out; omega
    have d2 : (0 : Int) < yy.length := by have := HLM.out; omega
    have d3 : (xx.length : Int) ≤ 10 := by have := HLN.out; omega
    have d4 : (yy.length : Int) ≤ 310 := by have := HLM.out; omega
    have n1 : ((xx.length : Int) == 0) = false := beq_eq_false_iff_ne.2 (by omega)
    have n2 : ((yy.length : Int) == 0) = false := beq_eq_false_iff_ne.2 (by omega)
    have mx := mod_idx at_ xx.length (by omega) (by omega)
    have my := mod_idx at_ yy.length (by omega) (by omega)
    obtain ⟨mx1, mx2⟩ := mx
    obtain ⟨my1, my2⟩ := my
    have mx3 : wrap64 ((IntKind.u64.wrap at_).tmod xx.length) ≤ xx.length := by omega
    have my3 : wrap64 ((IntKind.u64.wrap at_).tmod yy.length) ≤ yy.length := by omega
    go_wp2_with fail
    obtain ⟨jx, hjx, hjl⟩ : ∃ jx : Nat, (wrap64 ((IntKind.u64.wrap at_).tmod xx.length)).toNat = jx ∧ jx < xx.length := ⟨_, rfl, by omega⟩
    rw [hjx]
    have HJX : Hid (jx < xx.length) := hjl
    clear hjx hjl
    have C8 : Calls Tryd.prog 46 #[.slice (some ⟨kx, 0, none⟩) jx xx.length] w7 fun e w' => e = .returned (.pointer (some ⟨w7.heap.size + 1, 0, none⟩)) ∧ Hid (Below w.heap.size w w' ∧ w'.heap[ky]? = some (rowObj yy) ∧ Rdr w' (w7.heap.size + 1) w7.heap.size (xx.take jx) 0 jx) := by
      have hpl : (xx.take jx).length = jx := by have := HJX.out; simp; omega
      have C := read_any (some ⟨kx, 0, none⟩) xx.length (xx.take jx) w7 (take_row1 (rowObj_row S7.out.2.1) jx).bs (by have := HLN.out; have := HJX.out; omega)
      have R := rdr_new (xx.take jx) w7 (by have := HLN.out; have := HJX.out; omega)
      rw [hpl] at C R
      refine C.mono ?_
      rintro e w' ⟨rfl, rfl⟩
      have f : Fr (fun _ => False) w7 ((w7.alloc (rowObj (xx.take jx))).alloc (rdrObj w7.heap.size (xx.take jx) 0 jx)) := ((Fr.refl _ _).alloc _).alloc _
      exact ⟨rfl, S7.out.1.trans (f.below S7.out.1.size (fun _ hk => hk.elim)), f.heap S7.out.2.2 (fun h => h), R⟩
    refine C8.mono ?_
    rintro e w8 ⟨rfl, S8⟩
    clear C8 S7
    generalize w7.heap.size + 1 = gr at *
    generalize w7.heap.size = rr at *
    go_wp2_with fail
    have hsh : numGo (leftOf (xx.take jx) 0 jx) 0 0 = (0, 0, 2) := by
      have e1 : leftOf (xx.take jx) 0 jx = xx.take jx := by unfold leftOf; rw [List.drop_zero, List.take_take, Nat.min_self]
      rw [e1, HXX.out]
      exact leb_short 9 n 0 0 jx (by omega) (by have := HNN.out; omega) (by have := HJX.out; rw [HXX.out] at this; exact this)
    refine (ruint_bad gr rr (xx.take jx) 0 jx n 0 0 2 w8 S8.out.2.2 hsh (by omega)).mono ?_
    rintro e w9 ⟨v9, rfl, hv9, hf9⟩
    obtain ⟨T9, x9, rfl⟩ := hv9.iface
    have S9 : Hid (Below w.heap.size w w9 ∧ w9.heap[ky]? = some (rowObj yy) ∧ Wraps w9 [0] (.iface T9 x9) (.iface 29 (.int .i64 2))) := ⟨S8.out.1.trans (hf9.below S8.out.1.size (fun _ hk => hk.elim)), hf9.heap S8.out.2.1 (fun h => h), hv9⟩
    clear hv9 hf9 S8 hsh
    go_wp2_with fail
    obtain ⟨jy, hjy, hjyl⟩ : ∃ jy : Nat, (wrap64 ((IntKind.u64.wrap at_).tmod yy.length)).toNat = jy ∧ jy < yy.length := ⟨_, rfl, by omega⟩
    rw [hjy]
    have HJY : Hid (jy < yy.length) := hjyl
    clear hjy hjyl
    have C10 : Calls Tryd.prog 46 #[.slice (some ⟨ky, 0, none⟩) jy yy.length] w9 fun e w' => e = .returned (.pointer (some ⟨w9.heap.size + 1, 0, none⟩)) ∧ Hid (Below w.heap.size w w' ∧ Wraps w' [0] (.iface T9 x9) (.iface 29 (.int .i64 2)) ∧ Rdr w' (w9.heap.size + 1) w9.heap.size (yy.take jy) 0 jy) := by
      have hpl : (yy.take jy).length = jy := by have := HJY.out; simp; omega
      have C := read_any (some ⟨ky, 0, none⟩) yy.length (yy.take jy) w9 (take_row1 (rowObj_row S9.out.2.1) jy).bs (by have := HLM.out; have := HJY.out; omega)
      have R := rdr_new (yy.take jy) w9 (by have := HLM.out; have := HJY.out; omega)
      rw [hpl] at C R
      refine C.mono ?_
      rintro e w' ⟨rfl, rfl⟩
      have f : Fr (fun _ => False) w9 ((w9.alloc (rowObj (yy.take jy))).alloc (rdrObj w9.heap.size (yy.take jy) 0 jy)) := ((Fr.refl _ _).alloc _).alloc _
      exact ⟨rfl, S9.out.1.trans (f.below S9.out.1.size (fun _ hk => hk.elim)), S9.out.2.2.keep (fun k _ hk => f.block k (heap_lt hk) (fun h => h)), R⟩
    refine C10.mono ?_
    rintro e w10 ⟨rfl, S10⟩
    clear C10 S9
    generalize w9.heap.size + 1 = gs at *
    generalize w9.heap.size = rs at *
    go_wp2_with fail
    have C11 : Calls Tryd.prog 37 #[.pointer (some ⟨gs, 0, none⟩)] w10 fun e w' => ∃ v, e = .returned (.tuple #[.pointer none, v]) ∧ Wraps w' [((0 : Nat) : Int)] v (.iface 29 (.int .i64 2)) ∧ Fr (fun _ => False) w10 w' := by
      have e1 : leftOf (yy.take jy) 0 jy = yy.take jy := by unfold leftOf; rw [List.drop_zero, List.take_take, Nat.min_self]
      have hm : xs.length < 18446744073709551616 := by have := hl300.out; omega
      have hq : xs.length < 128 ^ (9 + 1) := by have := hl300.out; omega
      by_cases hj : jy < (lebF 9 xs.length).length
      · refine rsec_bad gs rs (yy.take jy) 0 jy 0 0 2 w10 S10.out.2.2 ?_ (by omega)
        rw [e1, HYY.out, List.take_append_of_le_length (by omega)]
        exact leb_short 9 xs.length 0 0 jy (by omega) hq hj
      · refine rsec_short gs rs (yy.take jy) 0 jy xs.length (lebF 9 xs.length).length w10 S10.out.2.2 ?_ hm ?_
        · obtain ⟨i, hi⟩ : ∃ i, jy = (lebF 9 xs.length).length + i := ⟨jy - (lebF 9 xs.length).length, by omega⟩
          rw [e1, HYY.out, hi, List.take_length_add_append]
          have := leb_num 9 xs.length 0 0 (xs.take i) (by omega) hq (by omega) (by omega) (by have := hl300.out; omega)
          simpa using this
        · have := HJY.out
          rw [HYY.out] at this
          simp at this
          omega
    refine C11.mono ?_
    rintro e w11 ⟨v11, rfl, hv11, hf11⟩
    obtain ⟨T11, x11, rfl⟩ := hv11.iface
    have S11 : Hid (Below w.heap.size w w11 ∧ Wraps w11 [0] (.iface T9 x9) (.iface 29 (.int .i64 2)) ∧ Wraps w11 [((0 : Nat) : Int)] (.iface T11 x11) (.iface 29 (.int .i64 2))) :=
      ⟨S10.out.1.trans (hf11.below S10.out.1.size (fun _ hk => hk.elim)), S10.out.2.1.keep (fun k _ hk => hf11.block k (heap_lt hk) (fun h => h)), hv11⟩
    clear hv11 hf11 S10 C11 mx1 mx2 mx3 my1 my2 my3
    go_wp2_with fail
    refine (fis_any [0] (.iface T9 x9) 2 2 w11 ((S11.out.1.cell HG.out.lt).trans HG.out) S11.out.2.1.err (by omega)).mono ?_
    rintro e w12 ⟨rfl, hf12⟩
    have S12 : Hid (Below w.heap.size w w12 ∧ Wraps w12 [0] (.iface T9 x9) (.iface 29 (.int .i64 2)) ∧ Wraps w12 [((0 : Nat) : Int)] (.iface T11 x11) (.iface 29 (.int .i64 2))) :=
      ⟨S11.out.1.trans (hf12.below S11.out.1.size (fun _ hk => hk.elim)), S11.out.2.1.keep (fun k _ hk => hf12.block k (heap_lt hk) (fun h => h)), S11.out.2.2.keep (fun k _ hk => hf12.block k (heap_lt hk) (fun h => h))⟩
    clear hf12 S11
    rw [show ((2 : Int) == 2) = true from rfl]
    go_wp2_with fail
    refine (fis_any [((0 : Nat) : Int)] (.iface T11 x11) 2 2 w12 ((S12.out.1.cell HG.out.lt).trans HG.out) S12.out.2.2.err (by omega)).mono ?_
    rintro e w13 ⟨rfl, hf13⟩
    have S13 : Hid (Below w.heap.size w w13 ∧ Wraps w13 [0] (.iface T9 x9) (.iface 29 (.int .i64 2))) :=
      ⟨S12.out.1.trans (hf13.below S12.out.1.size (fun _ hk => hk.elim)), S12.out.2.1.keep (fun k _ hk => hf13.block k (heap_lt hk) (fun h => h))⟩
    clear hf13 S12
    rw [show ((2 : Int) == 2) = true from rfl]
    go_wp2_with fail
    refine (path_any (noPlace_errno 2) [0] (.iface T9 x9) w13 ((S13.out.1.cell HG.out.lt).trans HG.out) S13.out.2 (by simp)).mono ?_
    rintro e w14 ⟨ap, cp, rfl, ho14, hf14, hfr14⟩
    have S14 : Hid (Below w.heap.size w w14 ∧ w14.ownsRow 0 3 1 (.slice ap 1 cp) 1 (I64 [0])) := ⟨S13.out.1.trans (hf14.below S13.out.1.size (fun _ hk => hk.elim)), ho14⟩
    clear ho14 hf14 hfr14 S13
    have C15 : Calls Tryd.prog 18 #[.slice ap 1 cp, .slice (some ⟨w14.heap.size, 0, none⟩) 1 1] (w14.alloc (.cells #[.int .i64 0] 3)) fun e w' => e = .returned (.bool true) ∧ Hid (Below w.heap.size w w') := by
      have f : Fr (fun _ => False) w14 (w14.alloc (.cells #[.int .i64 0] 3)) := (Fr.refl _ _).alloc _
      have hr : Row (w14.alloc (.cells #[.int .i64 0] 3)) ap (I64 [0]) := by
        have ho := ownsRow_heap S14.out.2 (w' := w14.alloc (.cells #[.int .i64 0] 3)) (fun k hk => f.block k (S14.out.2.lt k hk).2 (fun h => h))
        rcases ho.2 with ⟨h, h1⟩ | ⟨g, cap, cur, h, _⟩
        · omega
        · have e' := h
          simp only [Value.slice.injEq] at e'
          exact .inr ⟨_, e'.1, ho.cells (g := g) (by rw [h]; rfl)⟩
      refine (same_any ap (some ⟨w14.heap.size, 0, none⟩) cp 1 [0] [0] (w14.alloc (.cells #[.int .i64 0] 3)) hr (.inr ⟨_, rfl, cell_one_new _ _ _⟩) (by simp) (by simp)).mono ?_
      rintro e w' ⟨rfl, j, rfl⟩
      exact ⟨by simp, (S14.out.1.trans (f.below S14.out.1.size (fun _ hk => hk.elim))).trans (below_drewN' _ _ _)⟩
    go_wp2_with fail
    refine C15.mono ?_
    rintro e w15 ⟨rfl, S15⟩
    clear C15 S14
    go_wp2
    go_ret
    exact ⟨rfl, S15⟩
end Go.Proofs.YtcmmjkkpjclfgaaDoor
