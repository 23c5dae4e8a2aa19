import Derived.Test.YtcmmjkkpjclfgaaDoorStr
namespace Go.Proofs.YtcmmjkkpjclfgaaDoor
open Go.RowKit

theorem WStep.below {w w' : World} {g : Nat} {r : Option Nat} {bs : List UInt8} (h : WStep w w' g r bs) {B : Nat} (hB : B ≤ w.heap.size) (hg : B ≤ g) (hr : ∀ k, r = some k → B ≤ k) :
    Below B w w' ∧ ∃ r', Wtr w' g r' bs ∧ ∀ k, r' = some k → B ≤ k := by
  obtain ⟨r', h1, h2, h3⟩ := h
  refine ⟨h2.below hB (fun k hk => ?_), r', h1, fun k hk => ?_⟩
  · rcases hk with rfl | hk
    · exact hg
    · exact hr k hk.symm
  · rcases h3 with rfl | ⟨k', rfl, hk'⟩
    · exact hr k hk
    · cases hk; omega

theorem ownBlock_lt0 {w : World} {base e size n : Nat} {v : Value} {xs : List Value} (h : w.ownsRow base e size v n xs) : ∀ k, v.ownBlock = some k → k < w.heap.size := fun k hk => (h.lt k hk).2
theorem Wtr.lt {w : World} {g : Nat} {r : Option Nat} {bs : List UInt8} (h : Wtr w g r bs) : g < w.heap.size ∧ ∀ k, r = some k → k < w.heap.size := by
  obtain ⟨v, hg, rfl, _, ho⟩ := h
  exact ⟨heap_lt hg, ownBlock_lt0 ho⟩
theorem Wtr.keep {S : Nat → Prop} {w w' : World} {g : Nat} {r : Option Nat} {bs : List UInt8} (h : Wtr w g r bs) (f : Fr S w w') (h1 : ¬ S g) (h2 : ∀ k, r = some k → ¬ S k) : Wtr w' g r bs := by
  obtain ⟨v, hg, rfl, hne, ho⟩ := h
  exact ⟨v, f.heap hg h1, rfl, hne, ownsRow_heap ho (fun k hk => f.block k (ownBlock_lt0 ho k hk) (h2 k hk))⟩
/-- a Writer at block N and a Reader at block g, both of the call's own -/
structure Both (w wi : World) (N : Nat) (r : Option Nat) (bs : List UInt8) (g rb : Nat) (cs : List UInt8) (p q : Nat) : Prop where
  wt : Wtr wi N r bs
  rd : Rdr wi g rb cs p q
  be : Below w.heap.size w wi
  n0 : w.heap.size ≤ N
  r0 : ∀ k, r = some k → w.heap.size ≤ k ∧ k ≠ g
  g0 : w.heap.size ≤ g ∧ N ≠ g
theorem Both.step {w wi wj : World} {N : Nat} {r : Option Nat} {bs : List UInt8} {g rb : Nat} {cs : List UInt8} {p q p' : Nat} (h : Both w wi N r bs g rb cs p q) (hr : Rdr wj g rb cs p' q) (f : Fr (fun k => k = g) wi wj) : Both w wj N r bs g rb cs p' q :=
  ⟨h.wt.keep f h.g0.2 (fun k hk => (h.r0 k hk).2), hr, h.be.trans (f.below h.be.size (fun k hk => by subst hk; exact h.g0.1)), h.n0, h.r0, h.g0⟩
theorem Both.quiet {w wi wj : World} {N : Nat} {r : Option Nat} {bs : List UInt8} {g rb : Nat} {cs : List UInt8} {p q : Nat} (h : Both w wi N r bs g rb cs p q) (f : Fr (fun _ => False) wi wj) : Both w wj N r bs g rb cs p q :=
  ⟨h.wt.keep f (fun h => h) (fun _ _ h => h), h.rd.keep f (fun h => h) (fun h => h), h.be.trans (f.below h.be.size (fun _ hk => hk.elim)), h.n0, h.r0, h.g0⟩
theorem both_new {w wi : World} {N : Nat} {r : Option Nat} {bs cs : List UInt8} (h : Wtr wi N r bs) (hb : Below w.heap.size w wi) (hN : w.heap.size ≤ N) (hr : ∀ k, r = some k → w.heap.size ≤ k) (hl : cs.length ≤ 140737488355328) :
    Both w ((wi.alloc (rowObj cs)).alloc (rdrObj wi.heap.size cs 0 cs.length)) N r bs (wi.heap.size + 1) wi.heap.size cs 0 cs.length := by
  have hs := hb.size
  have f : Fr (fun _ => False) wi ((wi.alloc (rowObj cs)).alloc (rdrObj wi.heap.size cs 0 cs.length)) := ((Fr.refl _ _).alloc _).alloc _
  have hlt := h.lt
  exact ⟨h.keep f (fun h => h) (fun _ _ h => h), rdr_new cs wi hl, hb.trans (f.below hs (fun _ hk => hk.elim)), hN, fun k hk => ⟨hr k hk, by have := hlt.2 k hk; omega⟩, ⟨by omega, by have := hlt.1; omega⟩⟩

set_option maxRecDepth 100000 in
set_option maxHeartbeats 1000000 in
theorem lays_any (w : World) (hG : Glob w) :
    Calls Tryd.prog 38 #[] w fun e w' => e = .returned (.bool true) ∧ Below w.heap.size w w' := by
  have HG : Hid (Glob w) := hG
  clear hG
  go_enter Tryd.func38, Tryd.ntmps38
  go_wp2_with fail
  refine (new_any w).mono ?_
  rintro e w1 ⟨rfl, hw1⟩
  have W1 : Hid (Wtr w1 w.heap.size none []) := by rw [hw1]; exact wtr_new w
  have B1 : Hid (Below w.heap.size w w1) := by rw [hw1]; exact (Below.refl _ _).alloc (Nat.le_refl _) _
  clear hw1
  go_wp2_with fail
  refine (uint_any w.heap.size none [] 300 w1 W1.out (by omega) (by simp)).mono ?_
  rintro e w2 ⟨rfl, h2⟩
  obtain ⟨b2, r2, t2, hr2⟩ := h2.below B1.out.size (Nat.le_refl _) (fun k h => by cases h)
  have W2 : Hid (Wtr w2 w.heap.size r2 [172, 2] ∧ (∀ k, r2 = some k → w.heap.size ≤ k) ∧ Below w.heap.size w w2) := ⟨t2, hr2, B1.out.trans b2⟩
  clear h2 b2 t2 hr2 W1 B1
  go_wp2_with fail
  refine (wint_any w.heap.size r2 [172, 2] (-1) w2 W2.out.1 (by omega) (by omega) (by simp)).mono ?_
  rintro e w3 ⟨rfl, h3⟩
  obtain ⟨b3, r3, t3, hr3⟩ := h3.below W2.out.2.2.size (Nat.le_refl _) W2.out.2.1
  have W3 : Hid (Wtr w3 w.heap.size r3 [172, 2, 1] ∧ (∀ k, r3 = some k → w.heap.size ≤ k) ∧ Below w.heap.size w w3) := ⟨t3, hr3, W2.out.2.2.trans b3⟩
  clear h3 b3 t3 hr3 W2
  go_wp2_with fail
  refine (bytes_any w.heap.size r3 [172, 2, 1] w3 W3.out.1 (by simp)).mono ?_
  rintro e w4 ⟨rfl, h4⟩
  have W4 : Hid (Wtr w4 w.heap.size r3 [172, 2, 1] ∧ (∀ k, r3 = some k → w.heap.size ≤ k) ∧ Below w.heap.size w w4 ∧ w4.heap[w3.heap.size]? = some (rowObj [172, 2, 1])) := by
    rw [h4]
    exact ⟨W3.out.1.keep ((Fr.refl (fun _ => False) w3).alloc _) (fun h => h) (fun _ _ h => h), W3.out.2.1, W3.out.2.2.alloc W3.out.2.2.size _, heap_alloc_new w3 _⟩
  clear h4 W3
  go_wp2_with fail
  refine (read_any (some ⟨w3.heap.size, 0, none⟩) 3 [172, 2, 1] w4 (rowObj_row W4.out.2.2.2).bs (by simp)).mono ?_
  rintro e w5 ⟨rfl, h5⟩
  have S5 : Hid (Both w w5 w.heap.size r3 [172, 2, 1] (w4.heap.size + 1) w4.heap.size [172, 2, 1] 0 3) := by rw [h5]; exact both_new W4.out.1 W4.out.2.2.1 (Nat.le_refl _) W4.out.2.1 (by simp)
  clear h5 W4
  generalize w4.heap.size + 1 = g at *
  generalize w4.heap.size = rb at *
  go_wp2_with fail
  refine (ruint_ok g rb [172, 2, 1] 0 3 300 300 2 w5 S5.out.rd (by decide) (by omega)).mono ?_
  rintro e w6 ⟨rfl, hr6, hf6⟩
  have S6 : Hid (Both w w6 w.heap.size r3 [172, 2, 1] g rb [172, 2, 1] 2 3) := S5.out.step hr6 hf6
  clear hr6 hf6 S5
  go_wp2_with fail
  refine (rint_ok g rb [172, 2, 1] 2 3 1 1 w6 S6.out.rd (by decide) (by omega)).mono ?_
  rintro e w7 ⟨rfl, hr7, hf7⟩
  have S7 : Hid (Both w w7 w.heap.size r3 [172, 2, 1] g rb [172, 2, 1] 3 3) := S6.out.step hr7 hf7
  clear hr7 hf7 S6
  rw [show zag 1 = -1 from by decide]
  go_wp2_with fail
  generalize h8 : w7.alloc (Obj.cells #[Value.int IntKind.u8 128, Value.int IntKind.u8 0] 5) = w8
  have S8 : Hid (Both w w8 w.heap.size r3 [172, 2, 1] g rb [172, 2, 1] 3 3 ∧ w8.heap[w7.heap.size]? = some (rowObj [128, 0])) := by
    rw [← h8]; exact ⟨S7.out.quiet ((Fr.refl _ _).alloc _), heap_alloc_new w7 _⟩
  clear h8 S7
  refine (read_any (some ⟨w7.heap.size, 0, none⟩) 2 [128, 0] w8 (rowObj_row S8.out.2).bs (by simp)).mono ?_
  rintro e w9 ⟨rfl, h9⟩
  have S9 : Hid (Both w w9 w.heap.size r3 [172, 2, 1] g rb [172, 2, 1] 3 3 ∧ Rdr w9 (w8.heap.size + 1) w8.heap.size [128, 0] 0 2) := by
    rw [h9]; exact ⟨S8.out.1.quiet (((Fr.refl _ _).alloc _).alloc _), rdr_new [128, 0] w8 (by simp)⟩
  clear h9 S8
  go_wp2_with fail
  refine (ruint_bad (w8.heap.size + 1) w8.heap.size [128, 0] 0 2 9 0 0 3 w9 S9.out.2 (by decide) (by omega)).mono ?_
  rintro e w10 ⟨v10, rfl, hv10, hf10⟩
  have S10 : Hid (Both w w10 w.heap.size r3 [172, 2, 1] g rb [172, 2, 1] 3 3 ∧ Wraps w10 [0] v10 (.iface 29 (.int .i64 3))) := ⟨S9.out.1.quiet hf10, hv10⟩
  clear hv10 hf10 S9
  go_wp2_with fail
  refine (bytes_any w.heap.size r3 [172, 2, 1] w10 S10.out.1.wt (by simp)).mono ?_
  rintro e w11 ⟨rfl, h11⟩
  have f11 : Fr (fun _ => False) w10 w11 := by rw [h11]; exact (Fr.refl _ _).alloc _
  have S11 : Hid (Both w w11 w.heap.size r3 [172, 2, 1] g rb [172, 2, 1] 3 3 ∧ Wraps w11 [0] v10 (.iface 29 (.int .i64 3))) := ⟨S10.out.1.quiet f11, S10.out.2.keep (fun k _ hk => f11.block k (heap_lt hk) (fun h => h))⟩
  have hst : (convert 55 9 (.slice (some ⟨w10.heap.size, 0, none⟩) 3 3)).run Tryd.prog w11 = .ok (.string ⟨#[172, 2, 1]⟩) w11 := conv_str [172, 2, 1] (some ⟨w10.heap.size, 0, none⟩) 3 w11 (rowObj_row (by rw [h11]; exact heap_alloc_new w10 _)) (fun h => by cases h)
  obtain ⟨T10, x10, rfl⟩ := S11.out.2.iface
  clear h11 f11 S10
  go_wp2_with fail
  refine (end_ok g rb [172, 2, 1] 3 w11 S11.out.1.rd).mono ?_
  rintro e w12 ⟨rfl, n12, h12⟩
  have f12 : Fr (fun _ => False) w11 w12 := by rw [h12]; exact fr_drewN _ _
  have S12 : Hid (Below w.heap.size w w12 ∧ ErrIs w12 [0] (.iface T10 x10) 3) := ⟨(S11.out.1.quiet f12).be, (S11.out.2.keep (fun k _ hk => f12.block k (heap_lt hk) (fun h => h))).err⟩
  clear h12 f12 S11 hst
  go_wp2_with fail
  refine (kind_any [0] _ 3 w12 ?_ S12.out.2).mono ?_
  · exact (S12.out.1.cell HG.out.lt).trans HG.out
  rintro e w13 ⟨rfl, h13⟩
  have S13 : Hid (Below w.heap.size w w13) := S12.out.1.trans (h13.below S12.out.1.size (fun _ hk => hk.elim))
  clear h13 S12
  go_wp2
  go_ret
  exact ⟨rfl, S13⟩
end Go.Proofs.YtcmmjkkpjclfgaaDoor
