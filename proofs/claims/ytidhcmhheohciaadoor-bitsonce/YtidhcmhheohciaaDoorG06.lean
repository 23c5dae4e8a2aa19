import Derived.Test.YtidhcmhheohciaaDoorG05
import Derived.Test.YtidhcmhheohciaaDoorG02
namespace Go.Proofs.YtidhcmhheohciaaDoor
open Go.RowKit
theorem take_ok {k : Nat} (hk : k ≤ 2) (g rb : Nat) (bs : List UInt8) (p q n : Nat) (xs : List Int) (w : World) (h : Rdr w g rb bs p q) (hn : n ≤ 4096) (hR : rightL n 0 xs = true) (hb : leftOf bs p q = wayB n xs k) (hw : wayOf n xs = k) :
    Calls Tryd.prog 46 #[.pointer (some ⟨g, 0, none⟩), .int .i64 n] w fun e w' => ∃ a' c', e = .returned (.tuple #[.slice a' xs.length c', .nilIface]) ∧ xs.length ≤ c' ∧ (a' = none → c' = 0) ∧ RiK w w' a' xs ∧ Rdr w' g rb bs q q ∧ Fr (fun k => k = g) w w' := by
  match k, hk with
  | 0, _ => exact take_ok0 g rb bs p q n xs w h hn hR hb hw
  | 1, _ => exact take_ok1 g rb bs p q n xs w h hn hR hb hw
  | 2, _ => exact take_ok2 g rb bs p q n xs w h hn hR hb hw
theorem take_bad {k : Nat} (hk : k ≤ 2) (g rb : Nat) (bs : List UInt8) (p q n : Nat) (xs : List Int) (w : World) (h : Rdr w g rb bs p q) (hn : n ≤ 4096) (hR : rightL n 0 xs = true) (hb : leftOf bs p q = wayB n xs k) (hw : wayOf n xs ≠ k) :
    Calls Tryd.prog 46 #[.pointer (some ⟨g, 0, none⟩), .int .i64 n] w fun e w' => e = .returned (.tuple #[.slice none 0 0, .iface 32 (.int .i64 3)]) ∧ Fr (fun k => k = g) w w' := by
  match k, hk with
  | 0, _ => exact take_bad0 g rb bs p q n xs w h hn hR hb hw
  | 1, _ => exact take_bad1 g rb bs p q n xs w h hn hR hb hw
  | 2, _ => exact take_bad2 g rb bs p q n xs w h hn hR hb hw
theorem bound_ok {n : Nat} (hn : n ≤ 4096) (w : World) : Calls Tryd.prog 37 #[.int .i64 n] w fun e w' => w' = w ∧ e = .returned (.bool true) := by
  have t := bound_any n w
  have e : (decide (0 ≤ (n : Int)) && decide ((n : Int) ≤ 4096)) = true := by
    have h1 : (n : Int) ≤ 4096 := by omega
    simp [h1]
  rwa [e] at t
set_option maxRecDepth 100000 in
set_option maxHeartbeats 4000000 in
theorem read_ok (g rb : Nat) (bs : List UInt8) (p q n : Nat) (xs : List Int) (w : World) (h : Rdr w g rb bs p q) (hn : n ≤ 4096) (hR : rightL n 0 xs = true) (hb : leftOf bs p q = wayB n xs (wayOf n xs)) :
    Calls Tryd.prog 19 #[.pointer (some ⟨g, 0, none⟩), .int .i64 n] w fun e w' => ∃ a' c', e = .returned (.tuple #[.slice a' xs.length c', .nilIface]) ∧ xs.length ≤ c' ∧ (a' = none → c' = 0) ∧ RiK w w' a' xs ∧ Rdr w' g rb bs q q ∧ Fr (fun k => k = g) w w' := by
  have C0 := bound_ok hn w
  have C1 := rcopy_any g rb bs p q w h
  have HR := hide h
  have HB := hide hb
  have HG := hide hR
  have hg1 := heap_lt h.obj
  have hg2 := heap_lt h.row
  have hpq := h.pq
  have hqb := h.qb
  have hbl := h.len
  have hway := way_le n xs
  clear h hb hR
  go_enter Tryd.func19, Tryd.ntmps19
  go_upto_region 4 with first | (go_at_call 37; refine C0.mono ?_; rintro e w' ⟨h, rfl⟩; obtain rfl := h.symm; clear C0) | (go_at_call 45; refine C1.mono ?_; rintro e w1 ⟨rfl, j1, h1⟩; clear C1; replace h1 := hide h1)
  have R1 := rdr_copy (j := j1) HR.out
  rw [← h1.out] at R1
  have HR1 := hide (HR.out.keep R1.2 (fun h => h) (fun h => h))
  have HF1 := hide R1.2
  have C2 := take_ok (k := wayOf n xs) (by omega) w.heap.size rb bs p q n xs w1 R1.1 hn HG.out HB.out rfl
  clear h1 R1
  go_upto_region 5 with (go_at_call 46; refine C2.mono ?_; rintro e w2 ⟨a2, c2, rfl, z1, z2, z3, z4, z5⟩; clear C2)
  have hkg : ¬ g = w.heap.size := by omega
  have hkr : ¬ rb = w.heap.size := by omega
  have hR2 : Rdr w2 g rb bs p q := HR1.out.keep z5 hkg hkr
  have HF2 : Hid (Fr (fun k => k = g) w w2) := HF1.out.trans' z5 (fun _ _ h => h.elim) (fun j hj hjj => by omega)
  have HZ := hide (And.intro z1 (And.intro z2 (z3.mono HF1.out.size)))
  have C3 := rat_any w.heap.size rb bs q q w2 z4
  have C4 := rat_any g rb bs p q w2 hR2
  have C5 := rraw_ok g rb bs p q (q - p) w2 hR2 (by omega)
  rw [show p + (q - p) = q by omega] at C5
  have eqp : ((q - p : Nat) : Int) = (q : Int) - p := by omega
  rw [eqp] at C5
  have hq2 : (q : Int) ≤ 140737488355328 := by omega
  have hp2 : (p : Int) ≤ q := by omega
  clear z1 z2 z3 z4 z5 hR2 HR HR1 HF1
  generalize q - p = m at *
  generalize hA : w.heap.size = A at *
  go_wp2_with first | (go_at_call 44; refine C3.mono ?_; rintro e w3 ⟨rfl, rfl⟩; clear C3) | (go_at_call 44; refine C4.mono ?_; rintro e w4 ⟨rfl, rfl⟩; clear C4) | (go_at_call 47; refine C5.mono ?_; rintro e w5 ⟨rfl, y1, y2, y3⟩; replace y2 := hide y2; replace y3 := hide y3; clear C5 y1)
  go_ret2
  exact ⟨a2, c2, rfl, HZ.out.1, HZ.out.2.1, fun w' f => HZ.out.2.2 w' ((y3.out.mono (fun j _ hj => by show j < w.heap.size; rw [hA, hj]; exact hg1)).trans f), y2.out, HF2.out.trans y3.out⟩
set_option maxRecDepth 100000 in
set_option maxHeartbeats 4000000 in
theorem read_bad {k : Nat} (hk : k ≤ 2) (g rb : Nat) (bs : List UInt8) (p q n : Nat) (xs : List Int) (w : World) (hG : Glob w) (h : Rdr w g rb bs p q) (hn : n ≤ 4096) (hR : rightL n 0 xs = true) (hb : leftOf bs p q = wayB n xs k) (hw : wayOf n xs ≠ k) :
    Calls Tryd.prog 19 #[.pointer (some ⟨g, 0, none⟩), .int .i64 n] w fun e w' => ∃ v, e = .returned (.tuple #[.slice none 0 0, v]) ∧ Wraps w' [(p : Int)] v (.iface 32 (.int .i64 3)) ∧ Fr (fun _ => False) w w' := by
  have C0 := bound_ok hn w
  have C1 := rcopy_any g rb bs p q w h
  have HR := hide h
  have HB := hide hb
  have HG := hide hR
  have HQ := hide hG
  have HW := hide hw
  have hg1 := heap_lt h.obj
  have hg2 := heap_lt h.row
  clear h hb hR hG hw
  go_enter Tryd.func19, Tryd.ntmps19
  go_upto_region 4 with first | (go_at_call 37; refine C0.mono ?_; rintro e w' ⟨h, rfl⟩; obtain rfl := h.symm; clear C0) | (go_at_call 45; refine C1.mono ?_; rintro e w1 ⟨rfl, j1, h1⟩; clear C1; replace h1 := hide h1)
  have R1 := rdr_copy (j := j1) HR.out
  rw [← h1.out] at R1
  have HR1 := hide (HR.out.keep R1.2 (fun h => h) (fun h => h))
  have HF1 := hide R1.2
  have C2 := take_bad hk w.heap.size rb bs p q n xs w1 R1.1 hn HG.out HB.out HW.out
  clear h1 R1
  go_upto_region 5 with (go_at_call 46; refine C2.mono ?_; rintro e w2 ⟨rfl, z5⟩; clear C2)
  have hkg : ¬ g = w.heap.size := by omega
  have hkr : ¬ rb = w.heap.size := by omega
  have hR2 : Rdr w2 g rb bs p q := HR1.out.keep z5 hkg hkr
  have HF2 : Hid (Fr (fun _ => False) w w2) := HF1.out.trans' z5 (fun _ _ h => h.elim) (fun j hj hjj => by omega)
  have C3 := kind_any [] (.iface 32 (.int .i64 3)) 3 w2 (HQ.out.keep HF2.out (fun h => h)) rfl
  replace hR2 := hide hR2
  clear z5 HR HR1 HF1
  go_wp2_with fail
  refine C3.mono ?_
  rintro e w3 ⟨rfl, f3⟩
  have hR3 : Rdr w3 g rb bs p q := hR2.out.keep f3 (fun h => h) (fun h => h)
  have HF3 := hide (HF2.out.trans f3)
  have C4 := rat_any g rb bs p q w3 hR3
  clear C3 f3 hR3 hR2 HF2
  go_wp2_with fail
  refine C4.mono ?_
  rintro e w4 ⟨rfl, rfl⟩
  clear C4
  go_wp2_with fail
  refine (at_any [(p : Int)] 32 (.int .i64 3) (some ⟨w3.heap.size, 0, none⟩) 1 (w3.alloc (.cells #[.int .i64 (p : Int)] 3)) (.inr ⟨_, rfl, cell_one_new _ _ _⟩) (by simp)).mono ?_
  rintro e w5 ⟨v, rfl, hv, hf⟩
  have HV : Hid (Wraps w5 [(p : Int)] v (.iface 32 (.int .i64 3)) ∧ Fr (fun _ => False) w w5) := ⟨hv, (HF3.out.alloc _).trans hf⟩
  clear hv hf HF3
  go_wp2
  go_ret2
  exact ⟨v, rfl, HV.out⟩
end Go.Proofs.YtidhcmhheohciaaDoor
namespace Go.Proofs.YtidhcmhheohciaaDoor
open Go.RowKit
theorem wayOf_lays : wayOf 16 [0, 1, 2, 3] = 0 := by decide +kernel
theorem wayB_lays : wayB 16 [0, 1, 2, 3] 0 = [0, 15, 0] := by decide +kernel
theorem wayOf_nil16 : wayOf 16 [] = 1 := by decide +kernel
theorem right_lays : rightL (16 : Nat) 0 [0, 1, 2, 3] = true := by decide +kernel
/-- the row 0 .. 3 at block b -/
def Row4 (w : World) (b : Nat) : Prop := w.heap[b]? = some (Obj.cells #[.int .i64 0, .int .i64 1, .int .i64 2, .int .i64 3] 3 (0, 0))
theorem Row4.ri {w : World} {b : Nat} (h : Row4 w b) : Ri w (some ⟨b, 0, none⟩) [0, 1, 2, 3] := by
  have h' : w.heap[b]? = some (Obj.cells #[.int .i64 0, .int .i64 1, .int .i64 2, .int .i64 3] 3 (0, 0)) := h
  intro i x hx
  refine ⟨b, 0, rfl, ?_⟩
  simp only [World.cell?, h']
  match i, hx with
  | 0, hx => simp at hx; subst hx; rfl
  | 1, hx => simp at hx; subst hx; rfl
  | 2, hx => simp at hx; subst hx; rfl
  | 3, hx => simp at hx; subst hx; rfl
  | i + 4, hx => simp at hx
set_option maxRecDepth 100000 in
set_option maxHeartbeats 4000000 in
theorem lays_any (w : World) : Calls Tryd.prog 10 #[] w fun e w' => e = .returned (.bool true) ∧ Below w.heap.size w w' := by
  go_enter Tryd.func10, Tryd.ntmps10
  go_upto_region 2 with (go_at_call 8; refine (new_any _).mono ?_; rintro e w1 ⟨rfl, h1⟩; replace h1 := hide h1)
  have T1 : Hid (Wtr w1 w.heap.size none [] ∧ Below w.heap.size w w1) := by
    unfold Hid; rw [h1.out]; exact ⟨wtr_new w, (Below.refl _ _).alloc (Nat.le_refl _) _⟩
  have S1 : Hid (w1.heap.size = w.heap.size + 1) := by unfold Hid; rw [h1.out]; simp
  clear h1
  have B2 : Below w1.heap.size w1 (w1.alloc (.cells #[.int .i64 0, .int .i64 1, .int .i64 2, .int .i64 3] 3)) := (Below.refl _ _).alloc (Nat.le_refl _) _
  have R2 : Row4 (w1.alloc (.cells #[.int .i64 0, .int .i64 1, .int .i64 2, .int .i64 3] 3)) w1.heap.size := heap_alloc_new w1 _
  have C2 := write_all w.heap.size none [] 16 [0, 1, 2, 3] (some ⟨w1.heap.size, 0, none⟩) 4 (w1.alloc (.cells #[.int .i64 0, .int .i64 1, .int .i64 2, .int .i64 3] 3)) (T1.out.1.below B2) (fun w' f => Row4.ri (f.heap R2 (by
    rintro (h | h)
    · have := S1.out; omega
    · cases h))) (by simp) (by omega) (by simp) right_lays
  rw [wayOf_lays, wayB_lays] at C2
  have R2' := hide R2
  replace B2 := hide B2
  clear R2
  go_upto_region 3 with (go_at_call 9; refine C2.mono ?_; rintro e w2 ⟨rfl, h2⟩; replace h2 := hide h2; clear C2)
  obtain ⟨r2, t2, f2, x2⟩ := h2.out
  have T2 : Hid (Wtr w2 w.heap.size r2 [0, 15, 0] ∧ Below w.heap.size w w2) := ⟨t2, T1.out.2.trans ((B2.out.mono T1.out.2.size).trans (f2.below (by have := B2.out.size; have := T1.out.2.size; omega) (by rintro k (h | h); omega; cases h)))⟩
  have C3 := bytes_any w.heap.size r2 [0, 15, 0] w2 t2 (by simp)
  clear h2 t2 f2 x2 T1 R2' B2 S1
  go_upto_region 4 with first | (go_at_call 14; refine C3.mono ?_; rintro e w3 ⟨rfl, h3⟩; replace h3 := hide h3; clear C3; have C4 := read_any (some ⟨w2.heap.size, 0, none⟩) 3 [0, 15, 0] w3 (rowObj_row (by rw [h3.out]; exact heap_alloc_new w2 _)).bs (by simp)) | (go_at_call 18; refine C4.mono ?_; rintro e w4 ⟨rfl, h4⟩; replace h4 := hide h4; clear C4; have C5 := read_ok (w3.heap.size + 1) w3.heap.size [0, 15, 0] 0 3 16 [0, 1, 2, 3] w4 (by rw [h4.out]; exact rdr_new [0, 15, 0] w3 (by simp)) (by omega) right_lays (by rw [wayOf_lays, wayB_lays]; rfl)) | (go_at_call 19; refine C5.mono ?_; rintro e w5 ⟨a5, c5, rfl, z1, z2, z3, z4, z5⟩; replace z3 := hide z3; replace z5 := hide z5; clear C5 z4)
  have B5 : Hid (Below w2.heap.size w2 w5) := by
    have b3 : Below w2.heap.size w2 w3 := by rw [h3.out]; exact (Below.refl _ _).alloc (Nat.le_refl _) _
    have b4 : Below w3.heap.size w3 w4 := by rw [h4.out]; exact ((Below.refl _ _).alloc (Nat.le_refl _) _).alloc (by simp) _
    have s3 := b3.size
    exact b3.trans ((b4.mono s3).trans (z5.out.below (by have := b4.size; omega) (by rintro k rfl; omega)))
  have T5 := hide (And.intro (T2.out.1.below B5.out) (T2.out.2.trans (B5.out.mono T2.out.2.size)))
  have HZ := hide (And.intro z1 z2)
  clear B5 T2 h3 h4 z5 z1 z2
  have C6 := bytes_any w.heap.size r2 [0, 15, 0] w5 T5.out.1 (by simp)
  go_wp2_with first | (go_at_call 14; refine C6.mono ?_; rintro e w6 ⟨rfl, h6⟩; have hst : (convert 33 9 (.slice (some ⟨w5.heap.size, 0, none⟩) 3 3)).run Tryd.prog w6 = .ok (.string ⟨#[0, 15, 0]⟩) w6 := conv_str [0, 15, 0] (some ⟨w5.heap.size, 0, none⟩) 3 w6 (rowObj_row (by rw [h6]; exact heap_alloc_new w5 _)) (fun h => by cases h); have F6 := hide (show Below w5.heap.size w5 w6 by rw [h6]; exact (Below.refl _ _).alloc (Nat.le_refl _) _); clear C6 h6; have R7 : Row4 (w6.alloc (.cells #[.int .i64 0, .int .i64 1, .int .i64 2, .int .i64 3] 3)) w6.heap.size := heap_alloc_new w6 _; have F7 := hide (F6.out.trans (((Below.refl _ w6).alloc (Nat.le_refl _) (.cells #[.int .i64 0, .int .i64 1, .int .i64 2, .int .i64 3] 3)).mono F6.out.size)); have C7 := rsame_any [0, 1, 2, 3] [0, 1, 2, 3] a5 (some ⟨w6.heap.size, 0, none⟩) c5 4 (w6.alloc (.cells #[.int .i64 0, .int .i64 1, .int .i64 2, .int .i64 3] 3)) (z3.out _ ((Fr.ofBelow F7.out).mono (fun _ _ h => h))) R7.ri (by simp) (by simp); replace R7 := hide R7) | (go_at_call 12; refine C7.mono ?_; rintro e w8 ⟨⟨n8, h8⟩, rfl⟩; have F8 := hide (show Below w5.heap.size w5 w8 by rw [h8]; exact below_drewN F7.out n8); have C8 := way_any (n := 16) (xs := []) none 0 w8 (by omega) rfl (by simp) (Ri.nil _ _); rw [wayOf_nil16] at C8; clear C7 h8) | (go_at_call 15; refine C8.mono ?_; rintro e w9 ⟨h9, rfl⟩; have F9 := hide (F8.out.trans (h9.mono F8.out.size)); clear C8 h9)
  go_ret
  exact ⟨by simp, T5.out.2.trans (F9.out.mono T5.out.2.size)⟩
end Go.Proofs.YtidhcmhheohciaaDoor
namespace Go.Proofs.YtidhcmhheohciaaDoor
open Go.RowKit
theorem right_setF (n : Nat) (f : Nat → Bool) (k : Nat) : ∀ a, a + k ≤ n → rightL n a (setF f a k) = true := by
  induction k with
  | zero => intro a _; rfl
  | succ k ih =>
    intro a h
    rw [setF]
    have h1 := ih (a + 1) (by omega)
    split
    · rw [rightL, if_neg (by omega)]; simpa using h1
    · exact right_mono h1 (fun x hx => by have := right_mem h1 x hx; omega)
theorem set_zero (raw : List Int) (a : Option Addr) (c : Nat) (w : World) :
    Calls Tryd.prog 21 #[.int .i64 0, .slice a raw.length c] w fun e w' => e = .returned (.slice none 0 0) ∧ w' = w := by
  go_enter Tryd.func21, Tryd.ntmps21
  go_wp2
  refine wp_loop_rounds 1 ?_
  rw [rounds_succ]
  go_wp2
  go_ret
  exact ⟨rfl, rfl⟩
theorem set_all (k : Nat) (raw : List Int) (a : Option Addr) (c : Nat) (w : World) (hr : Ri w a raw) (hk : k ≤ 4096) (hc : raw.length ≤ 9223372036854775807) :
    ∃ xs : List Int, rightL k 0 xs = true ∧ Calls Tryd.prog 21 #[.int .i64 k, .slice a raw.length c] w fun e w' => ∃ a' c', e = .returned (.slice a' xs.length c') ∧ Ri w' a' xs ∧ xs.length ≤ c' ∧ (a' = none → c' = 0) ∧ Below w.heap.size w w' := by
  by_cases h0 : k = 0
  · subst h0
    refine ⟨[], rfl, (set_zero raw a c w).mono ?_⟩
    rintro e w' ⟨rfl, rfl⟩
    exact ⟨none, 0, rfl, Ri.nil _ _, Nat.le_refl _, fun _ => rfl, Below.refl _ _⟩
  · refine ⟨setL k raw k, ?_, set_any k raw a c w hr (by omega) hk hc⟩
    rw [setL_eq]
    exact right_setF k _ k 0 (by omega)
theorem size_way {n : Nat} {xs : List Int} (i : Nat) (hi : i ≤ 2) (a : Option Addr) (c : Nat) (w : World) (hn : n ≤ 4096) (h : rightL n 0 xs = true) (hc : xs.length ≤ c) (hr : Ri w a xs) :
    Calls Tryd.prog 16 #[.int .i64 n, .slice a xs.length c, .int .i64 (i : Nat)] w fun e w' => Below w.heap.size w w' ∧ e = .returned (.int .i64 (waySz n xs i : Nat)) := by
  have hl := right_len h (by omega)
  have hl2 : xs.length ≤ 40000 := by omega
  match i, hi with
  | 0, _ =>
    refine (size_plain n xs a c w hr hl2 hn h).mono ?_
    rintro e w' ⟨rfl, rfl⟩
    exact ⟨Below.refl _ _, by simp [waySz]⟩
  | 1, _ =>
    refine (size_gaps n xs a c w hr hl2 (by omega) (by omega) h).mono ?_
    rintro e w' ⟨hb1, rfl⟩
    exact ⟨hb1, by simp [waySz, gapsA]⟩
  | 2, _ =>
    refine (size_runs n xs a c w hr hl2 hc (by omega) (by omega) h).mono ?_
    rintro e w' ⟨hb1, rfl⟩
    exact ⟨hb1, by simp [waySz, runsA]⟩
set_option maxRecDepth 100000 in
set_option maxHeartbeats 4000000 in
theorem size_other {n : Nat} {xs : List Int} (v : Int) (hv : v < 0 ∨ 2 < v) (a : Option Addr) (c : Nat) (w : World) (hn : n ≤ 4096) (h : rightL n 0 xs = true) (hr : Ri w a xs) :
    Calls Tryd.prog 16 #[.int .i64 n, .slice a xs.length c, .int .i64 v] w fun e w' => Below w.heap.size w w' ∧ e = .returned (.int .i64 (-1)) := by
  have hl := right_len h (by omega)
  have hq := right_any n xs a c w hr (by omega)
  have e : ((decide (0 ≤ (n : Int)) && decide ((n : Int) ≤ 4096)) && rightL n 0 xs) = true := by
    have h1 : (n : Int) ≤ 4096 := by omega
    simp [h1, h]
  rw [e] at hq
  have v0 : (v == 0) = false := beq_eq_false_iff_ne.2 (by omega)
  have v1 : (v == 1) = false := beq_eq_false_iff_ne.2 (by omega)
  have v2 : (v == 2) = false := beq_eq_false_iff_ne.2 (by omega)
  clear hr h e hv hl
  go_enter Tryd.func16, Tryd.ntmps16
  go_wp2_with (go_at_call 11; refine hq.mono ?_; rintro e w' ⟨h, rfl⟩; obtain rfl := h.symm)
  go_ret
  exact ⟨Below.refl _ _, rfl⟩
/-- of whatever way -/
theorem size_any {n : Nat} {xs : List Int} (v : Int) (a : Option Addr) (c : Nat) (w : World) (hn : n ≤ 4096) (h : rightL n 0 xs = true) (hc : xs.length ≤ c) (hr : Ri w a xs) :
    Calls Tryd.prog 16 #[.int .i64 n, .slice a xs.length c, .int .i64 v] w fun e w' => Below w.heap.size w w' ∧ ∃ z : Int, e = .returned (.int .i64 z) ∧ (v < 0 ∨ 2 < v → z = -1) := by
  by_cases hv : v < 0 ∨ 2 < v
  · refine (size_other v hv a c w hn h hr).mono ?_
    rintro e w' ⟨hb, rfl⟩
    exact ⟨hb, -1, rfl, fun _ => rfl⟩
  · obtain ⟨i, rfl⟩ : ∃ i : Nat, v = (i : Int) := ⟨v.toNat, by omega⟩
    refine (size_way i (by omega) a c w hn h hc hr).mono ?_
    rintro e w' ⟨hb, rfl⟩
    exact ⟨hb, _, rfl, fun h => absurd h hv⟩
/-- the way that is laid has the fewest bytes -/
theorem way_min (n : Nat) (xs : List Int) : (waySz n xs (wayOf n xs) = waySz n xs 0 ∧ waySz n xs 0 ≤ waySz n xs 1 ∧ waySz n xs 0 ≤ waySz n xs 2) ∨ (waySz n xs (wayOf n xs) = waySz n xs 1 ∧ waySz n xs 1 < waySz n xs 0 ∧ waySz n xs 1 ≤ waySz n xs 2) ∨ (waySz n xs (wayOf n xs) = waySz n xs 2 ∧ waySz n xs 2 < waySz n xs 0 ∧ waySz n xs 2 < waySz n xs 1) := by
  by_cases h1 : waySz n xs 0 ≤ waySz n xs 1
  · by_cases h2 : waySz n xs 0 ≤ waySz n xs 2
    · exact .inl ⟨by rw [way0 h1 h2], h1, h2⟩
    · exact .inr (.inr ⟨by rw [way2 (by omega) (by omega)], by omega, by omega⟩)
  · by_cases h2 : waySz n xs 1 ≤ waySz n xs 2
    · exact .inr (.inl ⟨by rw [way1 (by omega) h2], by omega, h2⟩)
    · exact .inr (.inr ⟨by rw [way2 (by omega) (by omega)], by omega, by omega⟩)
end Go.Proofs.YtidhcmhheohciaaDoor
namespace Go.Proofs.YtidhcmhheohciaaDoor
open Go.RowKit
set_option maxRecDepth 100000 in
set_option maxHeartbeats 8000000 in
theorem rright_any (n : Int) (xs : List Int) (a : Option Addr) (c : Nat) (w : World) (hr : Ri w a xs) (hc : xs.length ≤ 100000) :
    Calls Tryd.prog 7 #[.int .i64 n, .slice a xs.length c] w fun e w' => (∃ j, w' = w.drewN j) ∧ e = .returned (.bool ((decide (0 ≤ n) && decide (n ≤ 4096)) && rightL n 0 xs)) := by
  have HR : Hid (Ri w a xs) := hr
  clear hr
  by_cases hn0 : n < 0
  · have e : decide (0 ≤ n) = false := decide_eq_false (by omega)
    rw [e]
    go_enter Tryd.func7, Tryd.ntmps7
    go_wp2
    go_ret
    exact ⟨⟨0, rfl⟩, by simp⟩
  by_cases hn1 : 4096 < n
  · have e : decide (n ≤ 4096) = false := decide_eq_false (by omega)
    rw [e]
    go_enter Tryd.func7, Tryd.ntmps7
    go_wp2
    go_ret
    exact ⟨⟨0, rfl⟩, by simp⟩
  have e : (decide (0 ≤ n) && decide (n ≤ 4096)) = true := by simp; omega
  rw [e, Bool.true_and]
  clear e
  go_enter Tryd.func7, Tryd.ntmps7
  go_wp2_with fail
  go_loopw [5] (fun s5 wr => ∃ (k j : Nat) (l : Int), wr = w.drewN j ∧ s5 = .int .i64 k ∧ k ≤ xs.length ∧ 0 ≤ l ∧ (k = 0 → l = 0) ∧ Hid ((k ≠ 0 → xs.getD (k - 1) 0 + 1 = l) ∧ rightL n l (xs.drop k) = rightL n 0 xs ∧ l ≤ n + 1)) (fun s5 _ => xs.length - (intOf s5).toNat)
  case atStart => exact ⟨0, 0, 0, rfl, rfl, Nat.zero_le _, Int.le_refl _, fun _ => rfl, ⟨fun h => absurd rfl h, rfl, by omega⟩⟩
  case round =>
    obtain ⟨k, j, l, rfl, rfl, hk, hl0, hkl, h4⟩ := hrel
    by_cases hk2 : k = xs.length
    · have hk3 : ¬ (k : Int) < xs.length := by omega
      have HE : Hid (rightL n 0 xs = true) := by
        unfold Hid
        rw [← h4.out.2.1, List.drop_of_length_le (by omega)]; rfl
      go_wp2
      go_ret
      exact ⟨⟨j, rfl⟩, by rw [HE.out]; rfl⟩
    · have hlt : k < xs.length := by omega
      have hlt' : (k : Int) < xs.length := by omega
      have HD : Hid (xs.drop k = xs.getD k 0 :: xs.drop (k + 1)) := by
        unfold Hid
        rw [List.drop_eq_getElem_cons hlt]; simp [hlt]
      obtain ⟨ab, ao, rfl, hcell⟩ := HR.out.at hlt
      obtain ⟨h41, h42, h43⟩ := h4.out
      rw [HD.out, rightL] at h42
      obtain ⟨x, hx⟩ : ∃ x, x = xs.getD k 0 := ⟨_, rfl⟩
      rw [← hx] at h42 hcell
      have HK : Hid (xs.getD (k + 1 - 1) 0 + 1 = x + 1) := by unfold Hid; rw [hx]; simp
      clear hx h4 HD
      have hk0 : (0 : Int) ≤ k := by omega
      by_cases x0 : x < 0
      · rw [if_pos (by omega)] at h42
        have HF := hide h42
        clear h42 h41 hkl
        go_wp2
        go_quiet (fail)
        go_wp2
        go_ret
        exact ⟨⟨_, by rw [World.drewN_drewN]⟩, by rw [← HF.out]; rfl⟩
      have d0 : decide (x < 0) = false := decide_eq_false x0
      by_cases x1 : n ≤ x
      · rw [if_pos (by omega)] at h42
        have HF := hide h42
        clear h42 h41 hkl
        go_wp2
        go_quiet (fail)
        go_wp2
        go_ret
        exact ⟨⟨_, by rw [World.drewN_drewN]⟩, by rw [← HF.out]; rfl⟩
      have d1 : decide (n ≤ x) = false := decide_eq_false x1
      by_cases k0 : k = 0
      · obtain rfl := hkl k0
        rw [if_neg (by omega)] at h42
        have HF := hide h42
        have x5 : x + 1 ≤ n + 1 := by omega
        have x6 : 0 ≤ x + 1 := by omega
        clear h42 h41 hkl h43
        subst k0
        rw [Nat.add_zero] at hcell
        go_wp2
        go_quiet (fail)
        go_wp2
        exact ⟨⟨0 + 1, _, x + 1, rfl, by simp, by omega, x6, fun h => absurd h (by omega), ⟨fun _ => HK.out, HF.out, x5⟩⟩, by simp [intOf]; omega⟩
      have hlast := h41 k0
      have hlt2 : k - 1 < xs.length := by omega
      obtain ⟨ab2, ao2, eab, hcell2⟩ := HR.out.at hlt2
      obtain ⟨rfl, rfl⟩ : ab = ab2 ∧ ao = ao2 := by simpa using eab
      generalize xs.getD (k - 1) 0 = y at *
      obtain ⟨k1, hk1⟩ : ∃ k1 : Nat, k1 = k - 1 := ⟨_, rfl⟩
      have ek1 : (k : Int) - 1 = k1 := by omega
      rw [← hk1] at hcell2
      have hk1a : (0 : Int) ≤ k1 := by omega
      have hk1b : (k1 : Int) < xs.length := by omega
      have hkp : (0 : Int) < k := by omega
      have hkp2 : 0 < k := by omega
      have hkd : decide ((0 : Int) < (k : Int)) = true := decide_eq_true hkp
      by_cases x2 : x ≤ y
      · rw [if_pos (by omega)] at h42
        have HF := hide h42
        clear h42 h41 hkl hk1 eab hlast k0
        go_wp2
        go_quiet (fail)
        go_wp2
        go_ret
        exact ⟨⟨_, by rw [World.drewN_drewN]⟩, by rw [← HF.out]; rfl⟩
      · rw [if_neg (by omega)] at h42
        have HF := hide h42
        have d3 : decide (x ≤ y) = false := decide_eq_false x2
        have x5 : x + 1 ≤ n + 1 := by omega
        have x6 : 0 ≤ x + 1 := by omega
        clear h42 h41 hkl hk1 eab hlast k0 h43
        go_wp2
        go_quiet (fail)
        go_wp2
        exact ⟨⟨k + 1, _, x + 1, rfl, by simp, by omega, x6, fun h => absurd h (by omega), ⟨fun _ => HK.out, HF.out, x5⟩⟩, by simp [intOf]; omega⟩
end Go.Proofs.YtidhcmhheohciaaDoor
namespace Go.Proofs.YtidhcmhheohciaaDoor
open Go.RowKit
theorem kmod (n : Int) : ∃ k : Nat, k ≤ 4096 ∧ wrap64 ((IntKind.u64.wrap n).tmod 4097) = (k : Int) := by
  rw [IntKind.wrap_u64, Int.tmod_eq_emod_of_nonneg (by omega)]
  refine ⟨(n % 18446744073709551616 % 4097).toNat, by omega, ?_⟩
  unfold wrap64; omega
theorem below_new {w : World} {o : Obj} : Below w.heap.size w (w.alloc o) := (Below.refl _ _).alloc (Nat.le_refl _) _
set_option maxRecDepth 100000 in
set_option maxHeartbeats 16000000 in
theorem small_walk (n v : Int) (raw : List Int) (a : Option Addr) (c : Nat) (w : World) (hr : Ri w a raw) (hc : raw.length ≤ 17592186043904) :
    Calls Tryd.prog 4 #[.int .i64 n, .slice a raw.length c, .int .i64 v] w fun e w' => e = .returned (.bool true) ∧ Below w.heap.size w w' := by
  obtain ⟨k, hk, hkm⟩ := kmod n
  obtain ⟨xs, hR, hset⟩ := set_all k raw a c w hr hk (by omega)
  have hlen := right_len hR (by omega)
  have s0 := waySz_len hk hR 0
  have s1 := waySz_len hk hR 1
  have s2 := waySz_len hk hR 2
  have sw := waySz_len hk hR (wayOf k xs)
  have b0 := waySz_le hk hR 0
  have b1 := waySz_le hk hR 1
  have b2 := waySz_le hk hR 2
  have bw := waySz_le hk hR (wayOf k xs)
  have hmin := way_min k xs
  have D0 : ∀ (a1 : Option Addr) (c1 : Nat) w1, xs.length ≤ c1 → Ri w1 a1 xs → Calls Tryd.prog 16 #[.int .i64 k, .slice a1 xs.length c1, .int .i64 0] w1 fun e w' => Below w1.heap.size w1 w' ∧ e = .returned (.int .i64 (waySz k xs 0 : Nat)) := fun a1 c1 w1 h1 h2 => size_way 0 (by omega) a1 c1 w1 hk hR h1 h2
  have D1 : ∀ (a1 : Option Addr) (c1 : Nat) w1, xs.length ≤ c1 → Ri w1 a1 xs → Calls Tryd.prog 16 #[.int .i64 k, .slice a1 xs.length c1, .int .i64 1] w1 fun e w' => Below w1.heap.size w1 w' ∧ e = .returned (.int .i64 (waySz k xs 1 : Nat)) := fun a1 c1 w1 h1 h2 => size_way 1 (by omega) a1 c1 w1 hk hR h1 h2
  have D2 : ∀ (a1 : Option Addr) (c1 : Nat) w1, xs.length ≤ c1 → Ri w1 a1 xs → Calls Tryd.prog 16 #[.int .i64 k, .slice a1 xs.length c1, .int .i64 2] w1 fun e w' => Below w1.heap.size w1 w' ∧ e = .returned (.int .i64 (waySz k xs 2 : Nat)) := fun a1 c1 w1 h1 h2 => size_way 2 (by omega) a1 c1 w1 hk hR h1 h2
  have D3 := fun a1 c1 w1 h1 h2 => size_any (n := k) (xs := xs) v a1 c1 w1 hk hR h1 h2
  have E0 := fun (a1 : Option Addr) (c1 : Nat) w1 h => rplain_any k xs a1 c1 w1 h (by omega) hk hR
  have E1 := fun (a1 : Option Addr) (c1 : Nat) w1 h => rgaps_any k xs a1 c1 w1 h hk hR
  have E2 := fun (a1 : Option Addr) (c1 : Nat) w1 h => rruns_any k xs a1 c1 w1 h hk hR
  have F0 := fun (g : Nat) (a1 : Option Addr) (c1 : Nat) w1 h1 h2 h3 => write_all g none [] k xs a1 c1 w1 h1 h2 (by simp) hk h3 hR
  rw [s0] at E0
  rw [s1] at E1
  rw [s2] at E2
  simp only [List.nil_append] at F0
  generalize wayB k xs 0 = P0 at *
  generalize wayB k xs 1 = P1 at *
  generalize wayB k xs 2 = P2 at *
  generalize wayB k xs (wayOf k xs) = PW at *
  generalize waySz k xs (wayOf k xs) = pw at *
  generalize waySz k xs 0 = p0 at *
  generalize waySz k xs 1 = p1 at *
  generalize waySz k xs 2 = p2 at *
  have hxl : (xs.length : Int) ≤ 4096 := by omega
  clear s0 s1 s2 hR hlen hr
  have SW := hide sw
  clear sw
  go_enter Tryd.func4, Tryd.ntmps4
  go_upto_region 2 with fail
  rw [hkm]
  generalize (IntKind.u64.wrap n).tmod 4097 = z1 at *
  generalize IntKind.u64.wrap n = z2 at *
  clear hkm
  go_upto_region 3 with (go_at_call 21; refine hset.mono ?_; rintro e w1 ⟨a1, c1, rfl, r1, k1, n1, b1'⟩; clear hset)
  replace r1 := hide r1
  replace k1 := hide k1
  replace B1 := hide b1'
  clear b1' n1
  go_upto_region 4 with first | (go_at_call 16; refine (D0 a1 c1 w1 k1.out r1.out).mono ?_; rintro e w2 ⟨h2, rfl⟩; clear D0; have r2 := hide (r1.out.keep' h2); have B2 := hide (B1.out.trans (h2.mono B1.out.size)); clear h2 B1) | (go_at_call 16; refine (D1 a1 c1 w2 k1.out r2.out).mono ?_; rintro e w3 ⟨h3, rfl⟩; clear D1; have r3 := hide (r2.out.keep' h3); have B3 := hide (B2.out.trans (h3.mono B2.out.size)); clear h3 B2) | (go_at_call 16; refine (D2 a1 c1 w3 k1.out r3.out).mono ?_; rintro e w4 ⟨h4, rfl⟩; clear D2; have r4 := hide (r3.out.keep' h4); have B4 := hide (B3.out.trans (h4.mono B3.out.size)); clear h4 B3)
  clear r1 r2 r3
  go_upto_region 5 with (go_at_call 8; refine (new_any _).mono ?_; rintro e w5 ⟨rfl, h5⟩; replace h5 := hide h5)
  have T5 : Hid (Wtr w5 w4.heap.size none [] ∧ Below w4.heap.size w4 w5 ∧ w5.heap.size = w4.heap.size + 1) := by
    unfold Hid; rw [h5.out]; exact ⟨wtr_new w4, below_new, by simp⟩
  clear h5
  go_upto_region 6 with (go_at_call 9; refine (F0 w4.heap.size a1 c1 w5 T5.out.1 (fun w' f => r4.out.keep' (T5.out.2.1.trans (f.below (by have := T5.out.2.2; omega) (by rintro j (h | h); omega; cases h)))) k1.out).mono ?_; rintro e w6 ⟨rfl, h6⟩; clear F0; replace h6 := hide h6)
  obtain ⟨r6, t6, f6, x6⟩ := h6.out
  have B6a : Below w4.heap.size w4 w6 := T5.out.2.1.trans (f6.below (by have := T5.out.2.2; omega) (by rintro j (h | h); omega; cases h))
  have rr6 := hide (r4.out.keep' B6a)
  have B6 := hide (B4.out.trans (B6a.mono B4.out.size))
  have G6 := bytes_any w4.heap.size r6 PW w6 t6 (by have := SW.out; omega)
  rw [SW.out] at G6
  clear h6 t6 f6 x6 B6a T5 B4 r4
  go_upto_region 7 with (go_at_call 14; refine G6.mono ?_; rintro e w7 ⟨rfl, h7⟩; clear G6; have R7 := hide (rr6.out.keep' (show Below w6.heap.size w6 w7 by rw [h7]; exact below_new)); have B7 := hide (B6.out.trans ((show Below w6.heap.size w6 w7 by rw [h7]; exact below_new).mono B6.out.size)); clear h7)
  clear rr6 B6
  go_upto_region 8 with (go_at_call 16; refine (D3 a1 c1 w7 k1.out R7.out).mono ?_; rintro e w8 ⟨h8, zz, rfl, hz⟩; clear D3; have R8 := hide (R7.out.keep' h8); have B8' := hide (B7.out.trans (h8.mono B7.out.size)); clear h8)
  clear R7 B7
  have HZ := hide hz
  clear hz
  have hvv : (0 ≤ v ∧ v ≤ 2) ∨ (v < 0 ∧ zz = -1) ∨ (0 ≤ v ∧ ¬ v ≤ 2 ∧ zz = -1) := by
    have t := HZ.out
    by_cases h1 : v < 0
    · exact .inr (.inl ⟨h1, t (.inl h1)⟩)
    · by_cases h2 : v ≤ 2
      · exact .inl ⟨by omega, h2⟩
      · exact .inr (.inr ⟨by omega, h2, t (.inr (by omega))⟩)
  clear HZ SW
  rcases hmin with ⟨rfl, m1, m2⟩ | ⟨rfl, m1, m2⟩ | ⟨rfl, m1, m2⟩
  · have m1' : (pw : Int) ≤ p1 := by omega
    have m2' : (pw : Int) ≤ p2 := by omega
    clear m1 m2
    rcases hvv with q | q | q
    · obtain ⟨v1, v2⟩ := q
      go_wp2_with first | (go_at_call 10; refine (lays_any _).mono ?_; rintro e w9 ⟨rfl, h9⟩; have R9 := hide (R8.out.keep' h9); have B9 := hide (B8'.out.trans (h9.mono B8'.out.size)); clear h9 B8' R8) | (go_at_call 22; refine (E0 a1 c1 w9 R9.out).mono ?_; rintro e w10 ⟨rfl, -, h10⟩; clear E0; have R10 := hide (R9.out.keep' h10); have B10 := hide (B9.out.trans (h10.mono B9.out.size)); clear h10 B9 R9) | (go_at_call 23; refine (E1 a1 c1 w10 R10.out).mono ?_; rintro e w11 ⟨a11, c11, rfl, h11⟩; clear E1; have b11 := h11.fr.below (Nat.le_refl _) (fun _ h => h.elim); have R11 := hide (R10.out.keep' b11); have B11 := hide (B10.out.trans (b11.mono B10.out.size)); clear h11 b11 B10 R10) | (go_at_call 24; refine (E2 a1 c1 w11 R11.out).mono ?_; rintro e w12 ⟨a12, c12, rfl, h12⟩; clear E2; have b12 := h12.fr.below (Nat.le_refl _) (fun _ h => h.elim); have B12 := hide (B11.out.trans (b12.mono B11.out.size)); clear h12 b12 B11 R11)
      go_ret
      exact ⟨by simp, B12.out⟩
    · obtain ⟨v1, rfl⟩ := q
      have v1' : ¬ 0 ≤ v := by omega
      go_wp2_with first | (go_at_call 10; refine (lays_any _).mono ?_; rintro e w9 ⟨rfl, h9⟩; have R9 := hide (R8.out.keep' h9); have B9 := hide (B8'.out.trans (h9.mono B8'.out.size)); clear h9 B8' R8) | (go_at_call 22; refine (E0 a1 c1 w9 R9.out).mono ?_; rintro e w10 ⟨rfl, -, h10⟩; clear E0; have R10 := hide (R9.out.keep' h10); have B10 := hide (B9.out.trans (h10.mono B9.out.size)); clear h10 B9 R9) | (go_at_call 23; refine (E1 a1 c1 w10 R10.out).mono ?_; rintro e w11 ⟨a11, c11, rfl, h11⟩; clear E1; have b11 := h11.fr.below (Nat.le_refl _) (fun _ h => h.elim); have R11 := hide (R10.out.keep' b11); have B11 := hide (B10.out.trans (b11.mono B10.out.size)); clear h11 b11 B10 R10) | (go_at_call 24; refine (E2 a1 c1 w11 R11.out).mono ?_; rintro e w12 ⟨a12, c12, rfl, h12⟩; clear E2; have b12 := h12.fr.below (Nat.le_refl _) (fun _ h => h.elim); have B12 := hide (B11.out.trans (b12.mono B11.out.size)); clear h12 b12 B11 R11)
      go_ret
      exact ⟨by simp, B12.out⟩
    · obtain ⟨v1, v2, rfl⟩ := q
      go_wp2_with first | (go_at_call 10; refine (lays_any _).mono ?_; rintro e w9 ⟨rfl, h9⟩; have R9 := hide (R8.out.keep' h9); have B9 := hide (B8'.out.trans (h9.mono B8'.out.size)); clear h9 B8' R8) | (go_at_call 22; refine (E0 a1 c1 w9 R9.out).mono ?_; rintro e w10 ⟨rfl, -, h10⟩; clear E0; have R10 := hide (R9.out.keep' h10); have B10 := hide (B9.out.trans (h10.mono B9.out.size)); clear h10 B9 R9) | (go_at_call 23; refine (E1 a1 c1 w10 R10.out).mono ?_; rintro e w11 ⟨a11, c11, rfl, h11⟩; clear E1; have b11 := h11.fr.below (Nat.le_refl _) (fun _ h => h.elim); have R11 := hide (R10.out.keep' b11); have B11 := hide (B10.out.trans (b11.mono B10.out.size)); clear h11 b11 B10 R10) | (go_at_call 24; refine (E2 a1 c1 w11 R11.out).mono ?_; rintro e w12 ⟨a12, c12, rfl, h12⟩; clear E2; have b12 := h12.fr.below (Nat.le_refl _) (fun _ h => h.elim); have B12 := hide (B11.out.trans (b12.mono B11.out.size)); clear h12 b12 B11 R11)
      go_ret
      exact ⟨by simp, B12.out⟩
  · have m1' : (pw : Int) < p0 := by omega
    have m2' : (pw : Int) ≤ p2 := by omega
    have m3' : ¬ (p0 : Int) ≤ pw := by omega
    clear m1 m2
    rcases hvv with q | q | q
    · obtain ⟨v1, v2⟩ := q
      go_wp2_with first | (go_at_call 10; refine (lays_any _).mono ?_; rintro e w9 ⟨rfl, h9⟩; have R9 := hide (R8.out.keep' h9); have B9 := hide (B8'.out.trans (h9.mono B8'.out.size)); clear h9 B8' R8) | (go_at_call 22; refine (E0 a1 c1 w9 R9.out).mono ?_; rintro e w10 ⟨rfl, -, h10⟩; clear E0; have R10 := hide (R9.out.keep' h10); have B10 := hide (B9.out.trans (h10.mono B9.out.size)); clear h10 B9 R9) | (go_at_call 23; refine (E1 a1 c1 w10 R10.out).mono ?_; rintro e w11 ⟨a11, c11, rfl, h11⟩; clear E1; have b11 := h11.fr.below (Nat.le_refl _) (fun _ h => h.elim); have R11 := hide (R10.out.keep' b11); have B11 := hide (B10.out.trans (b11.mono B10.out.size)); clear h11 b11 B10 R10) | (go_at_call 24; refine (E2 a1 c1 w11 R11.out).mono ?_; rintro e w12 ⟨a12, c12, rfl, h12⟩; clear E2; have b12 := h12.fr.below (Nat.le_refl _) (fun _ h => h.elim); have B12 := hide (B11.out.trans (b12.mono B11.out.size)); clear h12 b12 B11 R11)
      go_ret
      exact ⟨by simp, B12.out⟩
    · obtain ⟨v1, rfl⟩ := q
      have v1' : ¬ 0 ≤ v := by omega
      go_wp2_with first | (go_at_call 10; refine (lays_any _).mono ?_; rintro e w9 ⟨rfl, h9⟩; have R9 := hide (R8.out.keep' h9); have B9 := hide (B8'.out.trans (h9.mono B8'.out.size)); clear h9 B8' R8) | (go_at_call 22; refine (E0 a1 c1 w9 R9.out).mono ?_; rintro e w10 ⟨rfl, -, h10⟩; clear E0; have R10 := hide (R9.out.keep' h10); have B10 := hide (B9.out.trans (h10.mono B9.out.size)); clear h10 B9 R9) | (go_at_call 23; refine (E1 a1 c1 w10 R10.out).mono ?_; rintro e w11 ⟨a11, c11, rfl, h11⟩; clear E1; have b11 := h11.fr.below (Nat.le_refl _) (fun _ h => h.elim); have R11 := hide (R10.out.keep' b11); have B11 := hide (B10.out.trans (b11.mono B10.out.size)); clear h11 b11 B10 R10) | (go_at_call 24; refine (E2 a1 c1 w11 R11.out).mono ?_; rintro e w12 ⟨a12, c12, rfl, h12⟩; clear E2; have b12 := h12.fr.below (Nat.le_refl _) (fun _ h => h.elim); have B12 := hide (B11.out.trans (b12.mono B11.out.size)); clear h12 b12 B11 R11)
      go_ret
      exact ⟨by simp, B12.out⟩
    · obtain ⟨v1, v2, rfl⟩ := q
      go_wp2_with first | (go_at_call 10; refine (lays_any _).mono ?_; rintro e w9 ⟨rfl, h9⟩; have R9 := hide (R8.out.keep' h9); have B9 := hide (B8'.out.trans (h9.mono B8'.out.size)); clear h9 B8' R8) | (go_at_call 22; refine (E0 a1 c1 w9 R9.out).mono ?_; rintro e w10 ⟨rfl, -, h10⟩; clear E0; have R10 := hide (R9.out.keep' h10); have B10 := hide (B9.out.trans (h10.mono B9.out.size)); clear h10 B9 R9) | (go_at_call 23; refine (E1 a1 c1 w10 R10.out).mono ?_; rintro e w11 ⟨a11, c11, rfl, h11⟩; clear E1; have b11 := h11.fr.below (Nat.le_refl _) (fun _ h => h.elim); have R11 := hide (R10.out.keep' b11); have B11 := hide (B10.out.trans (b11.mono B10.out.size)); clear h11 b11 B10 R10) | (go_at_call 24; refine (E2 a1 c1 w11 R11.out).mono ?_; rintro e w12 ⟨a12, c12, rfl, h12⟩; clear E2; have b12 := h12.fr.below (Nat.le_refl _) (fun _ h => h.elim); have B12 := hide (B11.out.trans (b12.mono B11.out.size)); clear h12 b12 B11 R11)
      go_ret
      exact ⟨by simp, B12.out⟩
  · have m1' : (pw : Int) < p0 := by omega
    have m2' : (pw : Int) < p1 := by omega
    have m3' : ¬ (p0 : Int) ≤ pw := by omega
    have m4' : ¬ (p1 : Int) ≤ pw := by omega
    clear m1 m2
    rcases hvv with q | q | q
    · obtain ⟨v1, v2⟩ := q
      go_wp2_with first | (go_at_call 10; refine (lays_any _).mono ?_; rintro e w9 ⟨rfl, h9⟩; have R9 := hide (R8.out.keep' h9); have B9 := hide (B8'.out.trans (h9.mono B8'.out.size)); clear h9 B8' R8) | (go_at_call 22; refine (E0 a1 c1 w9 R9.out).mono ?_; rintro e w10 ⟨rfl, -, h10⟩; clear E0; have R10 := hide (R9.out.keep' h10); have B10 := hide (B9.out.trans (h10.mono B9.out.size)); clear h10 B9 R9) | (go_at_call 23; refine (E1 a1 c1 w10 R10.out).mono ?_; rintro e w11 ⟨a11, c11, rfl, h11⟩; clear E1; have b11 := h11.fr.below (Nat.le_refl _) (fun _ h => h.elim); have R11 := hide (R10.out.keep' b11); have B11 := hide (B10.out.trans (b11.mono B10.out.size)); clear h11 b11 B10 R10) | (go_at_call 24; refine (E2 a1 c1 w11 R11.out).mono ?_; rintro e w12 ⟨a12, c12, rfl, h12⟩; clear E2; have b12 := h12.fr.below (Nat.le_refl _) (fun _ h => h.elim); have B12 := hide (B11.out.trans (b12.mono B11.out.size)); clear h12 b12 B11 R11)
      go_ret
      exact ⟨by simp, B12.out⟩
    · obtain ⟨v1, rfl⟩ := q
      have v1' : ¬ 0 ≤ v := by omega
      go_wp2_with first | (go_at_call 10; refine (lays_any _).mono ?_; rintro e w9 ⟨rfl, h9⟩; have R9 := hide (R8.out.keep' h9); have B9 := hide (B8'.out.trans (h9.mono B8'.out.size)); clear h9 B8' R8) | (go_at_call 22; refine (E0 a1 c1 w9 R9.out).mono ?_; rintro e w10 ⟨rfl, -, h10⟩; clear E0; have R10 := hide (R9.out.keep' h10); have B10 := hide (B9.out.trans (h10.mono B9.out.size)); clear h10 B9 R9) | (go_at_call 23; refine (E1 a1 c1 w10 R10.out).mono ?_; rintro e w11 ⟨a11, c11, rfl, h11⟩; clear E1; have b11 := h11.fr.below (Nat.le_refl _) (fun _ h => h.elim); have R11 := hide (R10.out.keep' b11); have B11 := hide (B10.out.trans (b11.mono B10.out.size)); clear h11 b11 B10 R10) | (go_at_call 24; refine (E2 a1 c1 w11 R11.out).mono ?_; rintro e w12 ⟨a12, c12, rfl, h12⟩; clear E2; have b12 := h12.fr.below (Nat.le_refl _) (fun _ h => h.elim); have B12 := hide (B11.out.trans (b12.mono B11.out.size)); clear h12 b12 B11 R11)
      go_ret
      exact ⟨by simp, B12.out⟩
    · obtain ⟨v1, v2, rfl⟩ := q
      go_wp2_with first | (go_at_call 10; refine (lays_any _).mono ?_; rintro e w9 ⟨rfl, h9⟩; have R9 := hide (R8.out.keep' h9); have B9 := hide (B8'.out.trans (h9.mono B8'.out.size)); clear h9 B8' R8) | (go_at_call 22; refine (E0 a1 c1 w9 R9.out).mono ?_; rintro e w10 ⟨rfl, -, h10⟩; clear E0; have R10 := hide (R9.out.keep' h10); have B10 := hide (B9.out.trans (h10.mono B9.out.size)); clear h10 B9 R9) | (go_at_call 23; refine (E1 a1 c1 w10 R10.out).mono ?_; rintro e w11 ⟨a11, c11, rfl, h11⟩; clear E1; have b11 := h11.fr.below (Nat.le_refl _) (fun _ h => h.elim); have R11 := hide (R10.out.keep' b11); have B11 := hide (B10.out.trans (b11.mono B10.out.size)); clear h11 b11 B10 R10) | (go_at_call 24; refine (E2 a1 c1 w11 R11.out).mono ?_; rintro e w12 ⟨a12, c12, rfl, h12⟩; clear E2; have b12 := h12.fr.below (Nat.le_refl _) (fun _ h => h.elim); have B12 := hide (B11.out.trans (b12.mono B11.out.size)); clear h12 b12 B11 R11)
      go_ret
      exact ⟨by simp, B12.out⟩
end Go.Proofs.YtidhcmhheohciaaDoor
namespace Go.Proofs.YtidhcmhheohciaaDoor
open Go.RowKit Go.Extern.Stop Go.Stop Go.Extern
section
variable {P : Program} (w : World)
theorem run_equalIn_errno (d : Nat) {ti tn : TypeId} {ms : Array (String × TypeId)} {i : TypeInfo} {k : IntKind} (a b : Int)
    (hi : P.underlying ti = some (.interface ms)) (hn : P.underlying tn = some (.int k)) (hinfo : P.info? tn = some i) (hcomp : i.comparable = true) :
    (Op.equalIn (d + 2) ti (.iface tn (.int k a)) (.iface tn (.int k b))).run P w = .ok (a == b) w := by
  simp [Op.equalIn, run_underlying hi, run_underlying hn, typeInfo, hinfo, hcomp]
theorem run_eql_errno {ti tn : TypeId} {ms : Array (String × TypeId)} {i : TypeInfo} {k : IntKind} (a b : Int)
    (hi : P.underlying ti = some (.interface ms)) (hn : P.underlying tn = some (.int k)) (hinfo : P.info? tn = some i) (hcomp : i.comparable = true) :
    (binOp .eql ti (.iface tn (.int k a)) (.iface tn (.int k b))).run P w = .ok (.bool (a == b)) w := by
  simp only [binOp]
  simp [Op.equal, Op.maxDepth, run_equalIn_errno w 9998 a b hi hn hinfo hcomp]
end
theorem Tryd.noAs29 (v : Value) (xT : TypeId) (w : World) : (Instr.typeAssert (.iface 32 v) xT 120 true).run Tryd.prog w = .ok (.tuple #[.nilIface, .bool false]) w := run_typeAssert_lacksB Tryd.underlying120 (by kernel_rfl) (by kernel_rfl) v xT w
theorem Tryd.unwrap29 (v : Value) (xT : TypeId) (w : World) : (Instr.typeAssert (.iface 32 v) xT 99 true).run Tryd.prog w = .ok (.tuple #[.nilIface, .bool false]) w := run_typeAssert_lacksB Tryd.underlying99 (by kernel_rfl) (by kernel_rfl) v xT w
theorem Tryd.unwraps29 (v : Value) (xT : TypeId) (w : World) : (Instr.typeAssert (.iface 32 v) xT 101 true).run Tryd.prog w = .ok (.tuple #[.nilIface, .bool false]) w := run_typeAssert_lacksB Tryd.underlying101 (by kernel_rfl) (by kernel_rfl) v xT w
theorem Tryd.comp29 : (Tryd.prog.info? 32).map (·.comparable) = some true := by kernel_rfl
theorem Tryd.eql29 (a b : Int) (w : World) : (binOp .eql 27 (.iface 32 (.int .i64 a)) (.iface 32 (.int .i64 b))).run Tryd.prog w = .ok (.bool (a == b)) w := by
  obtain ⟨i, hi, hc⟩ := Option.map_eq_some_iff.1 Tryd.comp29
  exact run_eql_errno w a b Tryd.underlying27 Tryd.underlying32 hi hc
theorem Tryd.methodComparable (h : Value) (w : World) : (Go.method 254 94 (.agg #[h]) "Comparable").run Tryd.prog w = .ok (97, .agg #[h]) w := by kernel_rfl
theorem Tryd.noIs29 (v : Value) (xT : TypeId) (w : World) : (Instr.typeAssert (.iface 32 v) xT 96 true).run Tryd.prog w = .ok (.tuple #[.nilIface, .bool false]) w := run_typeAssert_lacksB Tryd.underlying96 (by kernel_rfl) (by kernel_rfl) v xT w
theorem Tryd.callComparable (w : World) : (callFunc 97 #[.agg #[.pointer (some ⟨1, 32, none⟩)]]).run Tryd.prog w = .ok (Next.value (.bool true)) w := by kernel_rfl
set_option maxRecDepth 100000 in
set_option maxHeartbeats 1000000 in
theorem is_low (a b : Int) (w : World) : Calls Tryd.prog 55 #[.iface 32 (.int .i64 a), .iface 32 (.int .i64 b), .bool true] w fun ev w' => ev = .returned (.bool (a == b)) ∧ w' = w := by
  have e29 := Tryd.eql29
  have nI := Tryd.noIs29
  have n1 := Tryd.unwrap29
  have n2 := Tryd.unwraps29
  cases hab : (a == b) with
  | true =>
    go_enter Tryd.func55, Tryd.ntmps55
    go_wp2
    refine wp_loop_rounds 1 ?_
    rw [rounds_succ]
    go_wp2
    go_ret
    exact ⟨rfl, rfl⟩
  | false =>
    go_enter Tryd.func55, Tryd.ntmps55
    go_wp2
    refine wp_loop_rounds 1 ?_
    rw [rounds_succ]
    go_wp2
    go_ret
    exact ⟨rfl, rfl⟩
set_option maxRecDepth 100000 in
set_option maxHeartbeats 1000000 in
theorem Is_errno (a b : Int) (w : World) : Calls Tryd.prog 38 #[.iface 32 (.int .i64 a), .iface 32 (.int .i64 b)] w fun ev w' => ev = .returned (.bool (a == b)) ∧ w' = w := by
  have h81 := @run_callFunc_extern Tryd.prog 54 _ ReflectliteType.typeOf Tryd.func54 (by kernel_rfl) (by kernel_rfl) (by kernel_rfl) (by kernel_rfl)
  have tE := Tryd.typeOf29
  have mC := Tryd.methodComparable
  have hC := Tryd.callComparable
  have C := is_low a b w
  go_enter Tryd.func38, Tryd.ntmps38
  go_wp2_with fail
  refine C.mono ?_
  rintro e w' ⟨rfl, rfl⟩
  clear C
  go_wp2
  go_ret
  exact ⟨rfl, rfl⟩
set_option maxRecDepth 100000 in
set_option maxHeartbeats 1000000 in
theorem fis_any (ps : List Int) (v : Value) (k t : Int) (w : World) (hG : Glob w) (h : ErrIs w ps v k) (ht : t ≠ 0) :
    Calls Tryd.prog 13 #[v, .int .i64 t] w fun e w' => e = .returned (.bool (k == t)) ∧ Fr (fun _ => False) w w' := by
  have C := kind_any ps v k w hG h
  have ht' : (t != 0) = true := by simp [ht]
  clear h hG ht
  go_enter Tryd.func13, Tryd.ntmps13
  go_wp2_with fail
  refine C.mono ?_
  rintro e w1 ⟨rfl, hf⟩
  have HF : Hid (Fr (fun _ => False) w w1) := hf
  clear C hf
  go_wp2_with fail
  refine (Is_errno k t w1).mono ?_
  rintro e w2 ⟨rfl, rfl⟩
  go_wp2
  go_ret
  exact ⟨rfl, HF⟩
end Go.Proofs.YtidhcmhheohciaaDoor
