import Derived.Test.YtcmmjkkpjclfgaaDoorRr
import Derived.Deep.RegionHeld3
namespace Go.Proofs.YtcmmjkkpjclfgaaDoor
open Go.RowKit

theorem take_row2 {w : World} {a : Option Addr} {ys : List UInt8} (h : Row w a (B8 ys)) (m : Nat) : Row w a (B8 (ys.take m)) := by
  rcases h with ⟨rfl, h⟩ | ⟨x, rfl, h⟩
  · have e : ys = [] := List.eq_nil_of_length_eq_zero (by rw [← B8_length, h]; rfl)
    exact .inl ⟨rfl, by simp [e, B8]⟩
  · refine .inr ⟨x, rfl, fun j u hj => h j u ?_⟩
    simp only [B8, List.getElem?_map, List.getElem?_take] at hj ⊢
    split at hj
    · exact hj
    · simp at hj
theorem drop_row {w : World} {x : Addr} {bs : List UInt8} (h : Row w (some x) (B8 bs)) (p n : Nat) : Row w (some (x.add p)) (B8 ((bs.drop p).take n)) := by
  rcases h with ⟨h, _⟩ | ⟨y, hy, h⟩
  · cases h
  · cases hy
    refine .inr ⟨_, rfl, fun j u hj => ?_⟩
    rw [Addr.add_add]
    refine h (p + j) u ?_
    simp only [B8, List.getElem?_map, List.getElem?_take, List.getElem?_drop] at hj ⊢
    split at hj
    · exact hj
    · simp at hj
set_option maxRecDepth 100000 in
set_option maxHeartbeats 400000 in
theorem refraw_ok (h : Nat) (a : Option Addr) (c : Nat) (bs : List UInt8) (p : Nat) (n : Nat) (w : World) (r : RefR w h a c bs p) (ho : Off w h a bs) (hn : p + n ≤ bs.length) :
    Calls Tryd.prog 51 #[.pointer (some ⟨h, 0, none⟩), .int .i64 (n : Int)] w fun e w' => ∃ a' c', e = .returned (.tuple #[.slice a' n c', .int .i64 0]) ∧ RefR w' h a c bs (p + n) ∧ Fr (fun k => k = h) w w' ∧ Row w' a' (B8 ((bs.drop p).take n)) ∧ (a' = none → c' = 0) := by
  have c0 := r.c0
  have c1 := r.c1
  have f1 := r.fz 1
  have hl : (bs.length : Int) ≤ 200 := by have := r.len; omega
  have hp0 : (0 : Int) ≤ p := by omega
  have hn0 : (0 : Int) ≤ n := by omega
  have hn1 : ¬ (n : Int) < 0 := by omega
  have hn2 : (p : Int) + n ≤ bs.length := by omega
  have hn3 : ¬ (bs.length : Int) - p < n := by omega
  have hcc : (bs.length : Int) ≤ c := by have := r.cap.2.1; omega
  have hcm : (c : Int) ≤ 140737488355328 := by have := r.cap.2.2; omega
  have H : Hid (RefR w h a c bs p ∧ Off w h a bs ∧ p + n ≤ bs.length ∧ (a = none → c = 0)) := ⟨r, ho, hn, r.cap.1⟩
  have g0 : ∀ n z, ((w.drewN n).setCell ⟨h, 1, none⟩ (.int .i64 z)).cell? ⟨h, 0, none⟩ = some (.slice a bs.length c) := fun n z => (World.cell?_setCell_other _ _ _ _ (by simp)).trans c0
  have g1 : ∀ n z, ((w.drewN n).setCell ⟨h, 1, none⟩ (.int .i64 z)).cell? ⟨h, 1, none⟩ = some (.int .i64 z) := fun n z => World.cell?_setCell_same _ _ _ c1
  clear r ho
  have hws : IntKind.i64.wrap ((p : Int) + n) = p + n := by rw [IntKind.wrap_i64]; omega
  have e1 : (p : Int) + n - n = p := by omega
  have R := fun (j : Nat) (z : Int) (hz : z = ((p + n : Nat) : Int)) => ref_set (W := w.drewN j) (p' := p + n) H.out.1 H.out.2.1 (below_drewN' w _ _) rfl H.out.2.2.1 z hz
  rcases a with _ | ⟨b, o, sp⟩
  · have hc0 := H.out.2.2.2 rfl
    subst hc0
    obtain rfl : p = 0 := by omega
    obtain rfl : n = 0 := by omega
    go_enter Tryd.func51, Tryd.ntmps51
    go_wp2
    go_quiet (fail)
    go_wp2
    go_quiet (fail)
    go_wp2
    go_ret2
    exact ⟨none, 0, rfl, (R _ _ (by simp)).1.drewN _, (R _ _ (by simp)).2.trans ((fr_drewN _ _).mono (fun _ _ h => h.elim)), .inl ⟨rfl, by simp [B8]⟩, fun _ => rfl⟩
  · go_enter Tryd.func51, Tryd.ntmps51
    go_wp2
    go_quiet (fail)
    go_wp2
    go_quiet (fail)
    go_wp2
    · have hcp : c = p := by assumption
      subst hcp
      go_ret2
      refine ⟨some ⟨b, o, sp⟩, 0, rfl, (R _ ((c : Int) + n) (by omega)).1.drewN _, (R _ ((c : Int) + n) (by omega)).2.trans ((fr_drewN _ _).mono (fun _ _ h => h.elim)), .inr ⟨_, rfl, fun j u hj => ?_⟩, fun h => by cases h⟩
      have hz : n = 0 := by have := H.out.2.2.1; omega
      rw [hz] at hj
      simp [B8] at hj
    · go_ret2
      refine ⟨some ((⟨b, o, sp⟩ : Addr).add p), c - p, rfl, (R _ _ (by omega)).1.drewN _, (R _ _ (by omega)).2.trans ((fr_drewN _ _).mono (fun _ _ h => h.elim)), ?_, fun h => by cases h⟩
      exact drop_row (((R _ _ (by omega)).1.drewN _).row) p n
/-- the number at a Reader's place, once more without a bound -/
theorem reft_in {w : World} {h : Nat} {a : Option Addr} {c : Nat} {bs : List UInt8} {p n s k : Nat} (r : RefR w h a c bs p) (hn : numGo (bs.drop p) 0 0 = (n, s, k)) (j : Nat) :
    Calls Tryd.prog 90 #[.slice a bs.length c, .int .i64 (p : Int), .int .u64 18446744073709551615] (w.drewN j) fun e w' => e = .returned (tri (rtk 18446744073709551615 n s k)) ∧ w' = w.drewN j :=
  (reft_any a c bs p 18446744073709551615 (w.drewN j) (r.row.keep (fr_drewN _ _) (fun _ _ h => h)) r.pq r.len n s k hn).mono fun _ _ ⟨h1, h2⟩ => ⟨h1, h2.symm⟩
set_option maxRecDepth 100000 in
set_option maxHeartbeats 400000 in
theorem refsec_bad (h : Nat) (a : Option Addr) (c : Nat) (bs : List UInt8) (p : Nat) (n s k : Nat) (w : World) (r : RefR w h a c bs p) (hn : numGo (bs.drop p) 0 0 = (n, s, k)) (hk : k ≠ 0) :
    Calls Tryd.prog 52 #[.pointer (some ⟨h, 0, none⟩)] w fun e w' => e = .returned (.tuple #[.pointer none, .int .i64 (k : Int)]) ∧ ∃ j, w' = w.drewN j := by
  have c0 := r.c0
  have c1 := r.c1
  have C := reft_in r hn
  rw [rtk_bad hk] at C
  unfold tri at C
  have hk' : ((k : Int) != 0) = true := by simpa using hk
  clear r hn hk
  go_enter Tryd.func52, Tryd.ntmps52
  go_wp2
  go_quiet ((go_at_call 90; exact Calls.quiet_of_same (C _)))
  clear C
  go_wp2
  go_ret2
  exact ⟨rfl, _, rfl⟩
set_option maxRecDepth 100000 in
set_option maxHeartbeats 400000 in
theorem refsec_short (h : Nat) (a : Option Addr) (c : Nat) (bs : List UInt8) (p : Nat) (n s : Nat) (w : World) (r : RefR w h a c bs p) (hn : numGo (bs.drop p) 0 0 = (n, s, 0)) (hs : bs.length < p + s + n) :
    Calls Tryd.prog 52 #[.pointer (some ⟨h, 0, none⟩)] w fun e w' => e = .returned (.tuple #[.pointer none, .int .i64 2]) ∧ Fr (fun _ => False) w w' := by
  have c0 := r.c0
  have c1 := r.c1
  have C := reft_in r hn
  have hn64 := (numGo_once hn).2.1
  rw [rtk_ok (by omega)] at C
  unfold tri at C
  have hsz := numGo_size _ _ _ _ _ hn
  rw [List.length_drop] at hsz
  obtain ⟨z, hz⟩ : ∃ z : Int, z = (n : Int) := ⟨_, rfl⟩
  simp only [← hz] at C
  have hl : (bs.length : Int) ≤ 200 := by have := r.len; omega
  have hp0 : (0 : Int) ≤ p := by omega
  have hp1 : (p : Int) + s ≤ bs.length := by have := r.pq; omega
  have hg : (bs.length : Int) - p - s < z := by omega
  have hs0 : (0 : Int) ≤ s := by omega
  clear r hn hs hsz hn64 hz
  go_enter Tryd.func52, Tryd.ntmps52
  go_wp2
  go_quiet ((go_at_call 90; exact Calls.quiet_of_same (C _)))
  clear C
  go_wp2
  go_quiet (fail)
  go_wp2
  go_ret2
  exact ⟨rfl, (fr_drewN _ _).trans (fr_drewN _ _)⟩
theorem refsec_done {w : World} {h : Nat} {a : Option Addr} {c : Nat} {bs : List UInt8} {p q1 q2 i : Nat} {z z1 : Int} (r : RefR w h a c bs p) (ho : Off w h a bs) (hz : z = (q2 : Int)) (hz1 : z1 = (q1 : Int)) (h1 : q1 ≤ q2) (h2 : q2 ≤ bs.length) :
    RefR (((w.drewN i).setCell ⟨h, 1, none⟩ (.int .i64 z)).alloc (.cells #[.slice a q2 c, .int .i64 z1] 81)).drew h a c bs q2 ∧
    RefR (((w.drewN i).setCell ⟨h, 1, none⟩ (.int .i64 z)).alloc (.cells #[.slice a q2 c, .int .i64 z1] 81)).drew w.heap.size a c (bs.take q2) q1 ∧
    Fr (fun k => k = h) w (((w.drewN i).setCell ⟨h, 1, none⟩ (.int .i64 z)).alloc (.cells #[.slice a q2 c, .int .i64 z1] 81)).drew := by
  subst hz1
  obtain ⟨r1, f1⟩ := ref_set (W := w.drewN i) (p' := q2) r ho (below_drewN' w _ _) rfl h2 z hz
  have f2 : Fr (fun _ => False) ((w.drewN i).setCell ⟨h, 1, none⟩ (.int .i64 z)) (((w.drewN i).setCell ⟨h, 1, none⟩ (.int .i64 z)).alloc (.cells #[.slice a q2 c, .int .i64 (q1 : Int)] 81)).drew := ((Fr.refl _ _).alloc _).drew
  have r2 : RefR (((w.drewN i).setCell ⟨h, 1, none⟩ (.int .i64 z)).alloc (.cells #[.slice a q2 c, .int .i64 (q1 : Int)] 81)).drew h a c bs q2 := ⟨f2.heap r1.obj (fun h => h), r1.row.keep f2 (fun _ _ h => h), r1.pq, r1.len, r1.cap⟩
  refine ⟨r2, ?_, f1.trans (f2.mono (fun _ _ h => h.elim))⟩
  have hl : (bs.take q2).length = q2 := by simp; omega
  refine ⟨?_, take_row2 r2.row q2, by omega, by have := r.len; omega, r.cap.1, by have := r.cap.2.1; omega, r.cap.2.2⟩
  have hs : ((w.drewN i).setCell ⟨h, 1, none⟩ (.int .i64 z)).heap.size = w.heap.size := by simp
  have := heap_alloc_new ((w.drewN i).setCell ⟨h, 1, none⟩ (.int .i64 z)) (.cells #[.slice a q2 c, .int .i64 (q1 : Int)] 81)
  rw [hs] at this
  rw [hl]
  exact this
set_option maxRecDepth 100000 in
set_option maxHeartbeats 400000 in
theorem refsec_ok (h : Nat) (a : Option Addr) (c : Nat) (bs : List UInt8) (p : Nat) (n s : Nat) (w : World) (r : RefR w h a c bs p) (ho : Off w h a bs) (hn : numGo (bs.drop p) 0 0 = (n, s, 0)) (hs : p + s + n ≤ bs.length) :
    Calls Tryd.prog 52 #[.pointer (some ⟨h, 0, none⟩)] w fun e w' => ∃ h2, e = .returned (.tuple #[.pointer (some ⟨h2, 0, none⟩), .int .i64 0]) ∧ RefR w' h a c bs (p + s + n) ∧ RefR w' h2 a c (bs.take (p + s + n)) (p + s) ∧ w.heap.size ≤ h2 ∧ Fr (fun k => k = h) w w' := by
  have c0 := r.c0
  have c1 := r.c1
  have f1 := r.fz 1
  have C := reft_in r hn
  have hlen := r.len
  obtain ⟨x, rfl⟩ : ∃ x, a = some x := by
    cases a with
    | some x => exact ⟨x, rfl⟩
    | none =>
      have h0 := r.cap.1 rfl
      have h1 := r.cap.2.1
      have : bs = [] := List.eq_nil_of_length_eq_zero (by omega)
      subst this
      simp [numGo] at hn
  rw [rtk_ok (by omega)] at C
  unfold tri at C
  have hl : (bs.length : Int) ≤ 200 := by omega
  have hp0 : (0 : Int) ≤ p := by omega
  have hs0 : (0 : Int) ≤ s := by omega
  have hn0 : (0 : Int) ≤ n := by omega
  have hp1 : (p : Int) + s + n ≤ bs.length := by omega
  have hg : ¬ (bs.length : Int) - p - s < n := by omega
  have hb0 : (0 : Int) ≤ (p : Int) + s + n := by omega
  have hb1 : (p : Int) + s + n ≤ c := by have := r.cap.2.1; omega
  have hcc : (bs.length : Int) ≤ c := by have := r.cap.2.1; omega
  have hcm : (c : Int) ≤ 140737488355328 := by have := r.cap.2.2; omega
  have H : Hid (RefR w h (some x) c bs p ∧ Off w h (some x) bs ∧ p + s + n ≤ bs.length) := ⟨r, ho, hs⟩
  have hgl := heap_lt r.obj
  have g0 : ∀ n z, ((w.drewN n).setCell ⟨h, 1, none⟩ (.int .i64 z)).cell? ⟨h, 0, none⟩ = some (.slice (some x) bs.length c) := fun n z => (World.cell?_setCell_other _ _ _ _ (by simp)).trans c0
  have g1 : ∀ n z, ((w.drewN n).setCell ⟨h, 1, none⟩ (.int .i64 z)).cell? ⟨h, 1, none⟩ = some (.int .i64 z) := fun n z => World.cell?_setCell_same _ _ _ c1
  clear r ho hn hs hlen
  go_enter Tryd.func52, Tryd.ntmps52
  go_wp2
  go_quiet ((go_at_call 90; exact Calls.quiet_of_same (C _)))
  clear C
  go_wp2
  go_quiet (fail)
  go_wp2
  go_region_held3 (fun w' => w'.cell? ⟨h, 0, none⟩ = some (.slice (some x) bs.length c) ∧ w'.cell? ⟨h, 1, none⟩ = some (.int .i64 ((p : Int) + s + n))) (go_keep) (fail)
  go_wp2
  go_ret2
  have D := fun i => refsec_done (i := i) (z := (p : Int) + s + n) (z1 := (p : Int) + s) (q1 := p + s) (q2 := p + s + n) H.out.1 H.out.2.1 (by omega) (by omega) (by omega) H.out.2.2
  exact ⟨w.heap.size, rfl, (D _).1, (D _).2.1, Nat.le_refl _, (D _).2.2⟩
end Go.Proofs.YtcmmjkkpjclfgaaDoor
