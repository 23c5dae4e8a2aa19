import Derived.Test.YtcmmjkkpjclfgaaDoorLeb
import Derived.Deep.DeepCutAuto
import Derived.Deep.RegionWith
namespace Go.Proofs.YtcmmjkkpjclfgaaDoor
open Go.RowKit

set_option maxRecDepth 100000 in
set_option maxHeartbeats 400000 in
theorem rint_bad (g rb : Nat) (bs : List UInt8) (p q : Nat) (n s k : Nat) (w : World) (h : Rdr w g rb bs p q) (hn : numGo (leftOf bs p q) 0 0 = (n, s, k)) (hk : k ≠ 0) :
    Calls Tryd.prog 35 #[.pointer (some ⟨g, 0, none⟩)] w fun e w' => ∃ v, e = .returned (.tuple #[.int .i64 0, v]) ∧ Wraps w' [(p : Int)] v (.iface 29 (.int .i64 k)) ∧ Fr (fun _ => False) w w' := by
  have C := ruint_bad g rb bs p q 18446744073709551615 n s k w h hn hk
  clear h hn hk
  go_enter Tryd.func35, Tryd.ntmps35
  go_wp2_with fail
  refine C.mono ?_
  rintro e w' ⟨v, rfl, hv, hf⟩
  obtain ⟨T, x, rfl⟩ := hv.iface
  have HV : Hid (Wraps w' [(p : Int)] (.iface T x) (.iface 29 (.int .i64 k)) ∧ Fr (fun _ => False) w w') := ⟨hv, hf⟩
  clear C hv hf
  go_wp2
  go_ret2
  exact ⟨_, rfl, HV.out⟩

theorem Row.below {w w' : World} {a : Option Addr} {vs : List Value} (h : Row w a vs) (b : Below w.heap.size w w') : Row w' a vs := by
  rcases h with h | ⟨x, rfl, h⟩
  · exact .inl h
  · exact .inr ⟨x, rfl, fun j u hj => (b.cell (World.block_lt_of_cell? _ _ (h j u hj))).trans (h j u hj)⟩
theorem take_row' {w : World} {a : Option Addr} {ys : List UInt8} (h : Row w a (B8 ys)) (m : Nat) : Row w a (B8 (ys.take m)) := by
  rcases h with ⟨rfl, h⟩ | ⟨x, rfl, h⟩
  · have e : ys = [] := List.eq_nil_of_length_eq_zero (by rw [← B8_length, h]; rfl)
    exact .inl ⟨rfl, by simp [e, B8]⟩
  · refine .inr ⟨x, rfl, fun j u hj => h j u ?_⟩
    simp only [B8, List.getElem?_map, List.getElem?_take] at hj ⊢
    split at hj
    · exact hj
    · simp at hj
/-- two Readers of the same bytes -/
structure Two (w wi : World) (g1 rb1 p1 g2 rb2 p2 : Nat) (xs : List UInt8) : Prop where
  r1 : Rdr wi g1 rb1 xs p1 xs.length
  r2 : Rdr wi g2 rb2 xs p2 xs.length
  be : Below w.heap.size w wi
  ne : g1 ≠ g2 ∧ rb1 ≠ g2 ∧ rb2 ≠ g1
  lo : w.heap.size ≤ g1 ∧ w.heap.size ≤ g2
theorem Two.quiet {w wi wj : World} {g1 rb1 p1 g2 rb2 p2 : Nat} {xs : List UInt8} (h : Two w wi g1 rb1 p1 g2 rb2 p2 xs) (f : Fr (fun _ => False) wi wj) : Two w wj g1 rb1 p1 g2 rb2 p2 xs :=
  ⟨h.r1.keep f (fun h => h) (fun h => h), h.r2.keep f (fun h => h) (fun h => h), h.be.trans (f.below h.be.size (fun _ hk => hk.elim)), h.ne, h.lo⟩
theorem Two.step1 {w wi wj : World} {g1 rb1 p1 g2 rb2 p2 p : Nat} {xs : List UInt8} (h : Two w wi g1 rb1 p1 g2 rb2 p2 xs) (hr : Rdr wj g1 rb1 xs p xs.length) (f : Fr (fun k => k = g1) wi wj) : Two w wj g1 rb1 p g2 rb2 p2 xs :=
  ⟨hr, h.r2.keep f (Ne.symm h.ne.1) h.ne.2.2, h.be.trans (f.below h.be.size (fun k hk => by subst hk; exact h.lo.1)), h.ne, h.lo⟩
theorem Two.step2 {w wi wj : World} {g1 rb1 p1 g2 rb2 p2 p : Nat} {xs : List UInt8} (h : Two w wi g1 rb1 p1 g2 rb2 p2 xs) (hr : Rdr wj g2 rb2 xs p xs.length) (f : Fr (fun k => k = g2) wi wj) : Two w wj g1 rb1 p1 g2 rb2 p xs :=
  ⟨h.r1.keep f h.ne.1 h.ne.2.1, hr, h.be.trans (f.below h.be.size (fun k hk => by subst hk; exact h.lo.2)), h.ne, h.lo⟩

set_option maxRecDepth 100000 in
set_option maxHeartbeats 6000000 in
theorem once_walk (a0 : Option Addr) (len cap : Nat) (ys : List UInt8) (w : World) (hG : Glob w) (hin : Row w a0 (B8 ys)) (hcap : ys.length = cap) (hlen : len ≤ cap) (hnil : a0 = none → cap = 0) (hmax : cap ≤ 140737488355328) :
    Calls Tryd.prog 9 #[.slice a0 len cap] w fun e w' => e = .returned (.bool true) ∧ Below w.heap.size w w' := by
  have HG : Hid (Glob w) := hG
  have b1 : (len : Int) ≤ cap := by omega
  have b2 : (cap : Int) ≤ 140737488355328 := by omega
  obtain ⟨xs, hxs⟩ : ∃ xs, xs = ys.take (min len 20) := ⟨_, rfl⟩
  have HX : Hid (xs.length = min len 20 ∧ Row w a0 (B8 xs)) := by subst hxs; exact ⟨by simp; omega, take_row' hin _⟩
  have HN : Hid (a0 = none → cap = 0) := hnil
  clear hG hin hcap hnil hmax hxs hlen
  go_enter Tryd.func9, Tryd.ntmps9
  go_upto_region 1 with fail
  go_cut [0] (fun v wx => w = wx ∧ v = .slice a0 xs.length cap)
  case first =>
    by_cases h20 : len ≤ 20
    · have h20' : ¬ (20 : Int) < len := by omega
      have HE : Hid (len = xs.length) := by have := HX.out.1; unfold Hid; omega
      rcases a0 with _ | x
      · obtain rfl := HN.out rfl
        obtain rfl : len = 0 := by omega
        go_wp2
        go_meet
        case rel => exact ⟨rfl, by rw [← HE.out]⟩
      · go_wp2
        go_meet
        case rel => exact ⟨rfl, by rw [← HE.out]⟩
    · have h20' : (20 : Int) < len := by omega
      have HE : Hid (xs.length = 20) := by have := HX.out.1; unfold Hid; omega
      rcases a0 with _ | x
      · exact absurd (HN.out rfl) (by omega)
      · go_wp2
        go_meet
        case rel => exact ⟨rfl, by rw [HE.out]⟩
  case rest =>
    obtain ⟨rfl, rfl⟩ := hcut
    have HM : Hid (xs.length ≤ 20) := by have := HX.out.1; unfold Hid; omega
    go_wp2_with fail
    refine (read_any a0 cap xs w HX.out.2.bs (by have := HM.out; omega)).mono ?_
    rintro e w1 ⟨rfl, h1⟩
    have S1 : Hid (Rdr w1 (w.heap.size + 1) w.heap.size xs 0 xs.length ∧ Below w.heap.size w w1 ∧ w1.heap.size = w.heap.size + 2) := by
      rw [h1]; exact ⟨rdr_new xs w (by have := HM.out; omega), ((Below.refl _ _).alloc (Nat.le_refl _) _).alloc (by simp) _, by simp⟩
    clear h1
    go_wp2_with fail
    refine (read_any a0 cap xs w1 (HX.out.2.below S1.out.2.1).bs (by have := HM.out; omega)).mono ?_
    rintro e w2 ⟨rfl, h2⟩
    have S2 : Hid (Two w w2 (w.heap.size + 1) w.heap.size 0 (w1.heap.size + 1) w1.heap.size 0 xs) := by
      have f : Fr (fun _ => False) w1 w2 := by rw [h2]; exact ((Fr.refl _ _).alloc _).alloc _
      obtain ⟨s1, s2, s3⟩ := S1.out
      refine ⟨s1.keep f (fun h => h) (fun h => h), by rw [h2]; exact rdr_new xs w1 (by have := HM.out; omega), s2.trans (f.below s2.size (fun _ hk => hk.elim)), by omega, by omega⟩
    clear h2 S1
    generalize w.heap.size + 1 = g1 at *
    generalize w1.heap.size + 1 = g2 at *
    generalize w1.heap.size = rb2 at *
    rcases hq : numGo xs 0 0 with ⟨n, s, k⟩
    have hq' : numGo (leftOf xs 0 xs.length) 0 0 = (n, s, k) := by simpa [leftOf] using hq
    have HQ : Hid (numGo xs 0 0 = (n, s, k) ∧ numGo (leftOf xs 0 xs.length) 0 0 = (n, s, k)) := ⟨hq, hq'⟩
    clear hq hq'
    by_cases hk : k = 0
    · subst hk
      have hon := numGo_once HQ.out.1
      have HON : Hid (s ≤ xs.length ∧ n < 18446744073709551616 ∧ lebF 9 n = xs.take s) := hon
      clear hon
      go_wp2_with fail
      refine (ruint_ok g1 _ xs 0 xs.length 18446744073709551615 n s w2 S2.out.r1 HQ.out.2 (by have := HON.out.2.1; omega)).mono ?_
      rintro e w3 ⟨rfl, hr3, hf3⟩
      have S3 := S2.out.step1 hr3 hf3
      have H3 : Hid (Two w w3 g1 w.heap.size (0 + s) g2 rb2 0 xs) := S3
      clear S3 hr3 hf3 S2
      go_wp2_with fail
      refine (rint_ok g2 rb2 xs 0 xs.length n s w3 H3.out.r2 HQ.out.2 HON.out.2.1).mono ?_
      rintro e w4 ⟨rfl, hr4, hf4⟩
      have H4 : Hid (Two w w4 g1 w.heap.size (0 + s) g2 rb2 (0 + s) xs) := H3.out.step2 hr4 hf4
      clear hr4 hf4 H3
      have L5 : ∀ i, Calls Tryd.prog 38 #[] (w4.drewN i) fun e w' => e = .returned (.bool true) ∧ Below w4.heap.size w4 w' := fun i =>
        (lays_any (w4.drewN i) ((H4.out.be.cell HG.out.lt).trans HG.out)).mono fun e w' h => ⟨h.1, (below_drewN' _ _ _).trans h.2⟩
      go_wp2
      go_region_held3 (fun _ => True) (trivial) ((go_at_call 38; refine (L5 _).mono ?_; rintro e w5 ⟨rfl, h5⟩))
      clear L5
      rename_i w5 h5 _
      have H5 : Hid (Two w w5 g1 w.heap.size (0 + s) g2 rb2 (0 + s) xs) := H4.out.quiet (Fr.ofBelow h5)
      clear h5 H4
      go_wp2_with fail
      refine (new_any w5).mono ?_
      rintro e w6 ⟨rfl, h6⟩
      have f6 : Fr (fun _ => False) w5 w6 := by rw [h6]; exact (Fr.refl _ _).alloc _
      have t6 : Wtr w6 w5.heap.size none [] := by rw [h6]; exact wtr_new w5
      have H6 : Hid (Two w w6 g1 w.heap.size (0 + s) g2 rb2 (0 + s) xs ∧ Wtr w6 w5.heap.size none [] ∧ g1 < w5.heap.size ∧ g2 < w5.heap.size ∧ w.heap.size < w5.heap.size ∧ rb2 < w5.heap.size) :=
        ⟨H5.out.quiet f6, t6, heap_lt H5.out.r1.obj, heap_lt H5.out.r2.obj, heap_lt H5.out.r1.row, heap_lt H5.out.r2.row⟩
      clear h6 f6 t6 H5
      generalize w5.heap.size = g3 at *
      go_wp2_with fail
      refine (new_any w6).mono ?_
      rintro e w7 ⟨rfl, h7⟩
      have H7 : Hid (Two w w7 g1 w.heap.size (0 + s) g2 rb2 (0 + s) xs ∧ Wtr w7 g3 none [] ∧ Wtr w7 w6.heap.size none [] ∧ g1 < g3 ∧ g2 < g3 ∧ w.heap.size < g3 ∧ rb2 < g3 ∧ g3 < w6.heap.size) := by
        have f7 : Fr (fun _ => False) w6 w7 := by rw [h7]; exact (Fr.refl _ _).alloc _
        obtain ⟨a1, a2, a3, a4, a5, a6⟩ := H6.out
        exact ⟨a1.quiet f7, a2.keep f7 (fun h => h) (fun _ _ h => h), by rw [h7]; exact wtr_new w6, a3, a4, a5, a6, a2.lt.1⟩
      clear h7 H6
      generalize w6.heap.size = g4 at *
      go_wp2_with fail
      refine (uint_any g3 none [] n w7 H7.out.2.1 HON.out.2.1 (by simp)).mono ?_
      rintro e w8 ⟨rfl, h8⟩
      obtain ⟨r8, t8, f8, x8⟩ := h8
      rw [List.nil_append, HON.out.2.2] at t8
      have H8 : Hid (Two w w8 g1 w.heap.size (0 + s) g2 rb2 (0 + s) xs ∧ Wtr w8 g3 r8 (xs.take s) ∧ Wtr w8 g4 none [] ∧ g3 ≠ g4 ∧ (∀ k, r8 = some k → k ≠ g4) ∧ w.heap.size ≤ g4) := by
        obtain ⟨a1, a2, a3, a4, a5, a6, a7, a8⟩ := H7.out
        have hs := a3.lt.1
        refine ⟨⟨a1.r1.keep f8 ?_ ?_, a1.r2.keep f8 ?_ ?_, a1.be.trans (f8.below a1.be.size ?_), a1.ne, a1.lo⟩, t8, a3.keep f8 ?_ (fun _ h => by cases h), by omega, fun k hk => ?_, by omega⟩
        · rintro (h | h)
          · omega
          · cases h
        · rintro (h | h)
          · omega
          · cases h
        · rintro (h | h)
          · omega
          · cases h
        · rintro (h | h)
          · omega
          · cases h
        · rintro k (h | h)
          · omega
          · cases h
        · rintro (h | h)
          · omega
          · cases h
        · rcases x8 with h | ⟨k', h, hk'⟩
          · rw [h] at hk; cases hk
          · rw [h] at hk; cases hk; omega
      clear t8 f8 x8 H7
      have hzz := zig_zag n HON.out.2.1
      have HZ : Hid (zig (zag n) = n ∧ -9223372036854775808 ≤ zag n ∧ zag n < 9223372036854775808) := hzz
      clear hzz
      go_wp2_with fail
      refine (wint_any g4 none [] (zag n) w8 H8.out.2.2.1 HZ.out.2.1 HZ.out.2.2 (by simp)).mono ?_
      rintro e w9 ⟨rfl, h9⟩
      obtain ⟨r9, t9, f9, x9⟩ := h9
      rw [List.nil_append, HZ.out.1, HON.out.2.2] at t9
      have H9 : Hid (Below w.heap.size w w9 ∧ Rdr w9 g1 w.heap.size xs (0 + s) xs.length ∧ Rdr w9 g2 rb2 xs (0 + s) xs.length ∧ Wtr w9 g3 r8 (xs.take s) ∧ Wtr w9 g4 r9 (xs.take s)) := by
        obtain ⟨a1, a2, a3, a4, a5, a6⟩ := H8.out
        have q1 : ∀ j, j ≠ g4 → ¬ (j = g4 ∨ some j = none) := fun j hj h => by
          rcases h with h | h
          · exact hj h
          · cases h
        have d1 : g1 ≠ g4 := fun e => by
          obtain ⟨v, hv, _⟩ := a3
          have := a1.r1.obj
          rw [e, hv] at this
          simp at this
        have d2 : g2 ≠ g4 := fun e => by
          obtain ⟨v, hv, _⟩ := a3
          have := a1.r2.obj
          rw [e, hv] at this
          simp at this
        have d3 : w.heap.size ≠ g4 := fun e => by
          obtain ⟨v, hv, _⟩ := a3
          have := a1.r1.row
          rw [e, hv] at this
          simp [rowObj] at this
        have d4 : rb2 ≠ g4 := fun e => by
          obtain ⟨v, hv, _⟩ := a3
          have := a1.r2.row
          rw [e, hv] at this
          simp [rowObj] at this
        refine ⟨a1.be.trans (f9.below a1.be.size ?_), a1.r1.keep f9 (q1 _ d1) (q1 _ d3), a1.r2.keep f9 (q1 _ d2) (q1 _ d4), a2.keep f9 (q1 _ a4) (fun k hk => q1 _ (a5 k hk)), t9⟩
        rintro k (h | h)
        · omega
        · cases h
      clear t9 f9 x9 H8 HZ HQ
      rw [Nat.zero_add] at H9
      obtain ⟨ts, hts⟩ : ∃ ts, ts = xs.take s := ⟨_, rfl⟩
      rw [← hts] at H9
      have HT : Hid (ts = xs.take s ∧ ts.length = s) := ⟨hts, by rw [hts]; simp; have := HON.out.1; omega⟩
      clear hts
      have B1 : ∀ i, Calls Tryd.prog 39 #[.pointer (some ⟨g3, 0, none⟩)] (w9.drewN i) fun e w' => e = .returned (.slice (some ⟨w9.heap.size, 0, none⟩) ts.length ts.length) ∧ w' = (w9.drewN i).alloc (rowObj ts) := fun i =>
        bytes_any g3 r8 ts (w9.drewN i) (H9.out.2.2.2.1.keep (fr_drewN _ _) (fun h => h) (fun _ _ h => h)) (by have := HT.out.2; have := HON.out.1; have := HM.out; omega)
      have hl20 : ts.length ≤ 20 := by have := HT.out.2; have := HON.out.1; have := HM.out; omega
      have A1 : ∀ i, Calls Tryd.prog 42 #[.pointer (some ⟨g1, 0, none⟩)] ((w9.drewN i).alloc (rowObj ts)) fun e w' => e = .returned (.int .i64 (s : Int)) ∧ (w9.drewN i).alloc (rowObj ts) = w' := fun i =>
        rat_any g1 _ xs s xs.length _ (H9.out.2.1.keep ((fr_drewN _ _).alloc _) (fun h => h) (fun h => h))
      have B2 : ∀ i, Calls Tryd.prog 39 #[.pointer (some ⟨g4, 0, none⟩)] ((w9.drewN i).alloc (rowObj ts)) fun e w' => e = .returned (.slice (some ⟨w9.heap.size + 1, 0, none⟩) ts.length ts.length) ∧ w' = ((w9.drewN i).alloc (rowObj ts)).alloc (rowObj ts) := fun i => by
        have := bytes_any g4 r9 ts ((w9.drewN i).alloc (rowObj ts)) (H9.out.2.2.2.2.keep ((fr_drewN _ _).alloc _) (fun h => h) (fun _ _ h => h)) (by omega)
        rw [World.size_alloc] at this
        exact this
      have A2 : ∀ i, Calls Tryd.prog 42 #[.pointer (some ⟨g2, 0, none⟩)] (((w9.drewN i).alloc (rowObj ts)).alloc (rowObj ts)) fun e w' => e = .returned (.int .i64 (s : Int)) ∧ ((w9.drewN i).alloc (rowObj ts)).alloc (rowObj ts) = w' := fun i =>
        rat_any g2 _ xs s xs.length _ (H9.out.2.2.1.keep (((fr_drewN _ _).alloc _).alloc _) (fun h => h) (fun h => h))
      have s1 : ∀ i, (convert 55 9 (.slice (some ⟨w9.heap.size, 0, none⟩) ts.length ts.length)).run Tryd.prog ((w9.drewN i).alloc (rowObj ts)) = .ok (.string ⟨ts.toArray⟩) ((w9.drewN i).alloc (rowObj ts)) := fun i =>
        conv_str ts _ _ _ (rowObj_row (heap_alloc_new (w9.drewN i) _)) (fun h => by cases h)
      have s2 : ∀ i, (convert 55 9 (.slice (some ⟨w9.heap.size + 1, 0, none⟩) ts.length ts.length)).run Tryd.prog (((w9.drewN i).alloc (rowObj ts)).alloc (rowObj ts)) = .ok (.string ⟨ts.toArray⟩) (((w9.drewN i).alloc (rowObj ts)).alloc (rowObj ts)) := fun i =>
        conv_str ts _ _ _ (rowObj_row (by have := heap_alloc_new ((w9.drewN i).alloc (rowObj ts)) (rowObj ts); rw [World.size_alloc] at this; exact this)) (fun h => by cases h)
      have hbe : ∀ i, Below w.heap.size w ((w9.drewN i).alloc (rowObj ts)) ∧ Below w.heap.size w (((w9.drewN i).alloc (rowObj ts)).alloc (rowObj ts)) := fun i =>
        ⟨(H9.out.1.trans (below_drewN' _ _ _)).alloc H9.out.1.size _, ((H9.out.1.trans (below_drewN' _ _ _)).alloc H9.out.1.size _).alloc (by have := H9.out.1.size; simp; omega) _⟩
      have hrow : Row w a0 (B8 ts) := by rw [HT.out.1]; exact take_row' HX.out.2 s
      have s3 : ∀ i, (convert 55 9 (.slice a0 s cap)).run Tryd.prog ((w9.drewN i).alloc (rowObj ts)) = .ok (.string ⟨ts.toArray⟩) ((w9.drewN i).alloc (rowObj ts)) := fun i => by
        have := conv_str ts a0 cap ((w9.drewN i).alloc (rowObj ts)) (hrow.below (hbe i).1) HN.out
        rw [HT.out.2] at this; exact this
      have s4 : ∀ i, (convert 55 9 (.slice a0 s cap)).run Tryd.prog (((w9.drewN i).alloc (rowObj ts)).alloc (rowObj ts)) = .ok (.string ⟨ts.toArray⟩) (((w9.drewN i).alloc (rowObj ts)).alloc (rowObj ts)) := fun i => by
        have := conv_str ts a0 cap (((w9.drewN i).alloc (rowObj ts)).alloc (rowObj ts)) (hrow.below (hbe i).2) HN.out
        rw [HT.out.2] at this; exact this
      have HBE : Hid (∀ i, Below w.heap.size w (((w9.drewN i).alloc (rowObj ts)).alloc (rowObj ts))) := fun i => (hbe i).2
      have c1 : (0 : Int) ≤ s := by omega
      have c2 : (s : Int) ≤ xs.length := by have := HON.out.1; omega
      have c3 : (xs.length : Int) ≤ cap := by have := HX.out.1; omega
      clear hbe hrow hl20 HX HN HON HG H9 HT
      go_wp2
      go_region_with (first | (go_at_call_of 39 g3; refine (B1 _).mono ?_; rintro e w' ⟨rfl, rfl⟩) | (go_at_call_of 42 g1; refine (A1 _).mono ?_; rintro e w' ⟨rfl, rfl⟩) | (go_at_call_of 39 g4; refine (B2 _).mono ?_; rintro e w' ⟨rfl, rfl⟩) | (go_at_call_of 42 g2; refine (A2 _).mono ?_; rintro e w' ⟨rfl, rfl⟩))
      all_goals (go_wp2; go_ret; exact ⟨rfl, HBE.out _⟩)
    · go_wp2_with fail
      refine (ruint_bad g1 _ xs 0 xs.length 18446744073709551615 n s k w2 S2.out.r1 HQ.out.2 hk).mono ?_
      rintro e w3 ⟨v3, rfl, hv3, hf3⟩
      obtain ⟨T3, x3, rfl⟩ := hv3.iface
      have H3 : Hid (Two w w3 g1 w.heap.size 0 g2 rb2 0 xs) := S2.out.quiet hf3
      clear hv3 hf3 S2
      go_wp2_with fail
      refine (rint_bad g2 rb2 xs 0 xs.length n s k w3 H3.out.r2 HQ.out.2 hk).mono ?_
      rintro e w4 ⟨v4, rfl, hv4, hf4⟩
      obtain ⟨T4, x4, rfl⟩ := hv4.iface
      have H4 : Hid (Two w w4 g1 w.heap.size 0 g2 rb2 0 xs) := H3.out.quiet hf4
      clear hv4 hf4 H3 hk
      have L5 : ∀ i, Calls Tryd.prog 38 #[] (w4.drewN i) fun e w' => e = .returned (.bool true) ∧ Below w4.heap.size w4 w' := fun i =>
        (lays_any (w4.drewN i) ((H4.out.be.cell HG.out.lt).trans HG.out)).mono fun e w' h => ⟨h.1, (below_drewN' _ _ _).trans h.2⟩
      go_wp2
      go_region_held3 (fun _ => True) (trivial) ((go_at_call 38; refine (L5 _).mono ?_; rintro e w5 ⟨rfl, h5⟩))
      clear L5
      rename_i w5 h5 _
      have H5 : Hid (Two w w5 g1 w.heap.size 0 g2 rb2 0 xs) := H4.out.quiet (Fr.ofBelow h5)
      clear h5 H4
      go_wp2_with fail
      refine (rat_any g1 _ xs 0 xs.length w5 H5.out.r1).mono ?_
      rintro e w6 ⟨rfl, rfl⟩
      go_wp2
      go_ret
      exact ⟨rfl, H5.out.be⟩
end Go.Proofs.YtcmmjkkpjclfgaaDoor
