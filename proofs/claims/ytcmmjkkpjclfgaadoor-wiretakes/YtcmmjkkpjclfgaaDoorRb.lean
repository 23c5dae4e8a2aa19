import Derived.Test.YtcmmjkkpjclfgaaDoorSec
namespace Go.Proofs.YtcmmjkkpjclfgaaDoor
open Go.RowKit

set_option maxRecDepth 100000 in
set_option maxHeartbeats 400000 in
theorem rbyte_ok (g rb : Nat) (bs : List UInt8) (p q : Nat) (c : UInt8) (w : World) (h : Rdr w g rb bs p q) (hp : p < q) (hc : bs[p]? = some c) :
    Calls Tryd.prog 33 #[.pointer (some ⟨g, 0, none⟩)] w fun e w' => e = .returned (.tuple #[.int .u8 (c.toNat : Int), .nilIface]) ∧ Rdr w' g rb bs (p + 1) q ∧ Fr (fun k => k = g) w w' := by
  have L := left_any g rb bs p q w h
  have c0 := h.c0
  have c1 := h.c1
  have f1 := h.fz 1
  have hpc : w.cell? ⟨rb, p, none⟩ = some (.int .u8 (c.toNat : Int)) := by
    have := h.row
    simp only [World.cell?, this, rowObj]
    simp [B8, hc]
  have b1 : (p : Int) < q := by omega
  have b2 : (q : Int) ≤ bs.length := by have := h.qb; omega
  have b3 : (bs.length : Int) ≤ 140737488355328 := by have := h.len; omega
  have b4 : (0 : Int) ≤ p := by omega
  have b5 : ¬ ((q - p : Nat) : Int) = 0 := by omega
  have b5' : (((q - p : Nat) : Int) == 0) = false := by simpa using b5
  have H : Hid (Rdr w g rb bs p q ∧ p < q) := ⟨h, hp⟩
  clear h hc
  go_enter Tryd.func33, Tryd.ntmps33
  go_wp2_with fail
  refine L.mono ?_
  rintro e w' ⟨rfl, j, rfl⟩
  clear L b5
  go_wp2
  go_quiet (fail)
  go_wp2
  go_ret2
  exact ⟨rfl, rdr_set (W := w.drewN (j + nq)) H.out.1 rfl (by have := H.out.2; omega) _ (by simp), fr_set (below_drewN' _ _ _) _ _⟩

theorem sec_done {w2 : World} {g rb : Nat} {bs : List UInt8} {p q ps n j : Nat} {z : Int} (h : Rdr w2 g rb bs p q) (hz : z = ((ps + n : Nat) : Int)) (hq : ps + n ≤ q) :
    Rdr (((w2.drewN j).setCell ⟨g, 1, none⟩ (.int .i64 z)).alloc (.cells #[.slice (some ⟨rb, 0, none⟩) bs.length bs.length, .int .i64 (ps : Int), .int .i64 z] 140)).drew g rb bs (ps + n) q ∧
    Rdr (((w2.drewN j).setCell ⟨g, 1, none⟩ (.int .i64 z)).alloc (.cells #[.slice (some ⟨rb, 0, none⟩) bs.length bs.length, .int .i64 (ps : Int), .int .i64 z] 140)).drew w2.heap.size rb bs ps (ps + n) ∧
    Fr (fun k => k = g) w2 (((w2.drewN j).setCell ⟨g, 1, none⟩ (.int .i64 z)).alloc (.cells #[.slice (some ⟨rb, 0, none⟩) bs.length bs.length, .int .i64 (ps : Int), .int .i64 z] 140)).drew := by
  have r1 := rdr_set (W := w2.drewN j) (p' := ps + n) h rfl hq z hz
  have f1 : Fr (fun k => k = g) w2 ((w2.drewN j).setCell ⟨g, 1, none⟩ (.int .i64 z)) := fr_set (below_drewN' _ _ _) _ _
  have f2 : Fr (fun _ => False) ((w2.drewN j).setCell ⟨g, 1, none⟩ (.int .i64 z)) (((w2.drewN j).setCell ⟨g, 1, none⟩ (.int .i64 z)).alloc (.cells #[.slice (some ⟨rb, 0, none⟩) bs.length bs.length, .int .i64 (ps : Int), .int .i64 z] 140)).drew := ((Fr.refl _ _).alloc _).drew
  have hs : ((w2.drewN j).setCell ⟨g, 1, none⟩ (.int .i64 z)).heap.size = w2.heap.size := by simp
  refine ⟨r1.keep f2 (fun h => h) (fun h => h), ⟨?_, f2.heap r1.row (fun h => h), by omega, by have := h.qb; omega, h.len⟩, f1.trans (f2.mono (fun _ _ h => h.elim))⟩
  have := heap_alloc_new ((w2.drewN j).setCell ⟨g, 1, none⟩ (.int .i64 z)) (.cells #[.slice (some ⟨rb, 0, none⟩) bs.length bs.length, .int .i64 (ps : Int), .int .i64 z] 140)
  rw [hs, hz] at this
  rw [hz]
  exact this
set_option maxRecDepth 100000 in
set_option maxHeartbeats 400000 in
theorem rsec_ok (g rb : Nat) (bs : List UInt8) (p q : Nat) (n s : Nat) (w : World) (h : Rdr w g rb bs p q) (hn : numGo (leftOf bs p q) 0 0 = (n, s, 0)) (hs : p + s + n ≤ q) :
    Calls Tryd.prog 37 #[.pointer (some ⟨g, 0, none⟩)] w fun e w' => ∃ g2, e = .returned (.tuple #[.pointer (some ⟨g2, 0, none⟩), .nilIface]) ∧ Rdr w' g rb bs (p + s + n) q ∧ Rdr w' g2 rb bs (p + s) (p + s + n) ∧ w.heap.size ≤ g2 ∧ Fr (fun k => k = g) w w' := by
  have C := rcopy_any g rb bs p q w h
  have hnq : n ≤ 140737488355328 := by have := h.qb; have := h.len; omega
  have H : Hid (Rdr w g rb bs p q ∧ numGo (leftOf bs p q) 0 0 = (n, s, 0) ∧ p + s + n ≤ q) := ⟨h, hn, hs⟩
  have b0 : ¬ ((q - (p + s) : Nat) : Int) < n := by omega
  have b1 : ((q - (p + s) : Nat) : Int) ≤ 140737488355328 := by have := h.qb; have := h.len; omega
  have b2 : (n : Int) ≤ 140737488355328 := by omega
  have b3 : ((p + s : Nat) : Int) ≤ 140737488355328 := by have := h.qb; have := h.len; omega
  have HE : Hid (((p + s : Nat) : Int) + n = ((p + s + n : Nat) : Int)) := by unfold Hid; omega
  have hgl := heap_lt h.obj
  clear h hn hs
  go_enter Tryd.func37, Tryd.ntmps37
  go_wp2_with fail
  refine C.mono ?_
  rintro e w1 ⟨rfl, j, h1⟩
  have HR : Hid (Rdr w1 w.heap.size rb bs p q ∧ Fr (fun _ => False) w w1 ∧ Rdr w1 g rb bs p q) := by
    have := rdr_copy (j := j) H.out.1
    rw [h1]; exact ⟨this.1, this.2, H.out.1.keep this.2 (fun h => h) (fun h => h)⟩
  clear C h1
  go_wp2_with fail
  refine (ruint_ok w.heap.size rb bs p q 18446744073709551615 n s w1 HR.out.1 H.out.2.1 (by omega)).mono ?_
  rintro e w2 ⟨rfl, hr2, hf2⟩
  have H2 : Hid (Rdr w2 w.heap.size rb bs (p + s) q ∧ Rdr w2 g rb bs p q ∧ Fr (fun _ => False) w w2) := by
    have hrl := heap_lt H.out.1.row
    exact ⟨hr2, HR.out.2.2.keep hf2 (by omega) (by omega), HR.out.2.1.trans' hf2 (fun _ _ h => h) (fun j hj h => by omega)⟩
  clear hr2 hf2 HR
  go_wp2_with fail
  refine (left_any w.heap.size rb bs (p + s) q w2 H2.out.1).mono ?_
  rintro e w3 ⟨rfl, j3, rfl⟩
  have a1 : w2.cell? ⟨w.heap.size, 1, none⟩ = some (.int .i64 ((p + s : Nat) : Int)) := H2.out.1.c1
  have g0 := H2.out.2.1.c0
  have g1 := H2.out.2.1.c1
  have f1 := H2.out.2.1.fz 1
  have hne : g ≠ w.heap.size := by omega
  have hne2 : ¬ w.heap.size = g := by omega
  generalize hw : w.heap.size = A at *
  have HW : Hid (w.heap.size = A) := hw
  clear hw
  generalize hps : p + s = ps at *
  have HPS : Hid (p + s = ps) := hps
  clear hps
  have k0 : ((w2.drewN j3).setCell ⟨g, 1, none⟩ (.int .i64 ((ps : Int) + n))).cell? ⟨g, 0, none⟩ = some (.slice (some ⟨rb, 0, none⟩) bs.length bs.length) := (World.cell?_setCell_other _ _ _ _ (by simp)).trans g0
  have k1 : ((w2.drewN j3).setCell ⟨g, 1, none⟩ (.int .i64 ((ps : Int) + n))).cell? ⟨A, 1, none⟩ = some (.int .i64 (ps : Int)) := (World.cell?_setCell_other _ _ _ _ (by intro e; exact hne (congrArg Addr.block e))).trans a1
  go_wp2
  go_region_held3 (fun w' => w'.cell? ⟨g, 0, none⟩ = some (.slice (some ⟨rb, 0, none⟩) bs.length bs.length) ∧ w'.cell? ⟨A, 1, none⟩ = some (.int .i64 (ps : Int))) (go_keep) (fail)
  go_wp2
  go_ret2
  have hq := H.out.2.2
  obtain ⟨d1, d2, d3⟩ := sec_done (j := j3) (z := (ps : Int) + n) H2.out.2.1 (by omega) hq
  refine ⟨w2.heap.size, rfl, ?_, ?_, H2.out.2.2.size, H2.out.2.2.trans' d3 (fun _ _ h => h.elim) (fun _ _ h => h)⟩
  · rw [HPS.out]; exact d1
  · rw [HPS.out]; exact d2
end Go.Proofs.YtcmmjkkpjclfgaaDoor
