import Derived.Test.YtcmmjkkpjclfgaaDoorMade
import Derived.Test.YtcmmjkkpjclfgaaDoorIsCh
namespace Go.Proofs.YtcmmjkkpjclfgaaDoor
open Go.RowKit

set_option maxRecDepth 100000 in
theorem fis_zero (v : Value) (w : World) : Calls Tryd.prog 23 #[v, .int .i64 0] w fun e w' => e = .returned (.bool false) ∧ w = w' := by
  go_enter Tryd.func23, Tryd.ntmps23
  go_wp2
  go_ret
  exact ⟨rfl, rfl⟩
theorem fis_all (ps : List Int) (v : Value) (k t : Int) (w : World) (hG : Glob w) (h : ErrIs w ps v k) (hk : k ≠ 0) :
    Calls Tryd.prog 23 #[v, .int .i64 t] w fun e w' => e = .returned (.bool (k == t)) ∧ Fr (fun _ => False) w w' := by
  by_cases ht : t = 0
  · subst ht
    refine (fis_zero v w).mono ?_
    rintro e w' ⟨rfl, rfl⟩
    have : (k == 0) = false := by simpa using hk
    exact ⟨by rw [this], Fr.refl _ _⟩
  · exact fis_any ps v k t w hG h ht

set_option maxRecDepth 100000 in
set_option maxHeartbeats 1000000 in
theorem is_walk (k other : Int) (a0 : Option Addr) (c0 : Nat) (rs : List RowI) (w : World) (hG : Glob w) (hr : Row w a0 (rs.map RowI.val)) (hok : ∀ r ∈ rs, r.Ok w) (hmax : rs.length ≤ 140737488355328) :
    Calls Tryd.prog 4 #[.int .i64 k, .int .i64 other, .slice a0 rs.length c0] w fun e w' => e = .returned (.bool true) ∧ Below w.heap.size w w' := by
  obtain ⟨kk, hkk⟩ : ∃ kk, kk = if k = 0 then 9 else k := ⟨_, rfl⟩
  have HK : Hid (kk = if k = 0 then 9 else k) := hkk
  have HK0 : Hid (kk ≠ 0) := by unfold Hid; rw [hkk]; split <;> omega
  have HG : Hid (Glob w) := hG
  have C := made_any kk a0 c0 rs w hr hok hmax
  generalize accK rs (min rs.length 8) = ps at *
  clear hkk hG hr hok hmax
  go_enter Tryd.func4, Tryd.ntmps4
  go_upto_if 12 with fail
  go_cut [0] (fun v wx => w = wx ∧ v = .int .i64 kk)
  case first =>
    by_cases h0 : k = 0
    · have HKE : Hid (kk = 9) := by have := HK.out; rw [if_pos h0] at this; exact this
      have h0' : (k == 0) = true := by simp [h0]
      have H0 : Hid (k = 0) := h0
      clear h0
      go_wp2
      go_meet
      case rel => exact ⟨rfl, by rw [HKE.out]⟩
    · have HKE : Hid (kk = k) := by have := HK.out; rw [if_neg h0] at this; exact this
      have h0' : (k == 0) = false := by simp [h0]
      go_wp2
      go_meet
      case rel => exact ⟨rfl, by rw [HKE.out]⟩
  case rest =>
    obtain ⟨rfl, rfl⟩ := hcut
    go_wp2_with fail
    refine C.mono ?_
    rintro e w1 ⟨v, a, c, rfl, hM⟩
    obtain ⟨T, x, rfl⟩ := hM.err.iface
    have H1 : Hid (Wraps w1 ps (.iface T x) (.iface 29 (.int .i64 kk)) ∧ Fr (fun _ => False) w w1) := ⟨hM.err, hM.fr⟩
    clear C hM
    have f2 : Fr (fun _ => False) w1 (w1.alloc (.cells #[.int .i64 0] 29)) := (Fr.refl _ _).alloc _
    have D := As_any ps (.iface T x) kk ⟨w1.heap.size, 0, none⟩ (.int .i64 0) (w1.alloc (.cells #[.int .i64 0] 29)) (HG.out.keep (H1.out.2.trans f2) (fun h => h)) (H1.out.1.fr f2).err (by simp) (by simp)
    clear f2
    go_wp2_with fail
    refine D.mono ?_
    rintro e w3 ⟨rfl, w2, hw2, h3⟩
    have H3 : Hid (Wraps w3 ps (.iface T x) (.iface 29 (.int .i64 kk)) ∧ Fr (fun _ => False) w w3 ∧ w3.cell? ⟨w1.heap.size, 0, none⟩ = some (.int .i64 kk)) := by
      have f : Fr (fun _ => False) w1 w3 := by
        rw [h3]
        exact (((Fr.refl (fun _ => False) w1).alloc _).trans hw2).setCell _ (fun h => absurd h (Nat.lt_irrefl _)) _
      refine ⟨H1.out.1.fr f, H1.out.2.trans f, ?_⟩
      have hb : w2.heap[w1.heap.size]? = some (Obj.cells #[.int .i64 0] 29 (0, 0)) := (hw2.block w1.heap.size (by simp) (fun h => h)).trans (heap_alloc_new w1 _)
      rw [h3]
      have := setCell_heap_one (u := .int .i64 kk) hb
      simp [World.cell?, this]
    clear D hw2 h3 H1
    generalize w1.heap.size = g1 at *
    go_wp2_with fail
    refine (tells_any w3 (HG.out.keep H3.out.2.1 (fun h => h))).mono ?_
    rintro e w4 ⟨rfl, hf4⟩
    have H4 : Hid (Wraps w4 ps (.iface T x) (.iface 29 (.int .i64 kk)) ∧ Fr (fun _ => False) w w4 ∧ w4.cell? ⟨g1, 0, none⟩ = some (.int .i64 kk)) := ⟨H3.out.1.fr hf4, H3.out.2.1.trans hf4, hf4.cell H3.out.2.2 (fun h => h)⟩
    clear hf4 H3
    go_wp2_with fail
    refine (fis_all ps (.iface T x) kk kk w4 (HG.out.keep H4.out.2.1 (fun h => h)) H4.out.1.err HK0.out).mono ?_
    rintro e w5 ⟨rfl, hf5⟩
    have H5 : Hid (Wraps w5 ps (.iface T x) (.iface 29 (.int .i64 kk)) ∧ Fr (fun _ => False) w w5 ∧ w5.cell? ⟨g1, 0, none⟩ = some (.int .i64 kk)) := ⟨H4.out.1.fr hf5, H4.out.2.1.trans hf5, hf5.cell H4.out.2.2 (fun h => h)⟩
    clear hf5 H4
    rw [show (kk == kk) = true from beq_self_eq_true kk]
    go_wp2_with fail
    refine (fis_all ps (.iface T x) kk other w5 (HG.out.keep H5.out.2.1 (fun h => h)) H5.out.1.err HK0.out).mono ?_
    rintro e w6 ⟨rfl, hf6⟩
    have H6 : Hid (Wraps w6 ps (.iface T x) (.iface 29 (.int .i64 kk)) ∧ Fr (fun _ => False) w w6 ∧ w6.cell? ⟨g1, 0, none⟩ = some (.int .i64 kk)) := ⟨H5.out.1.fr hf6, H5.out.2.1.trans hf6, hf6.cell H5.out.2.2 (fun h => h)⟩
    clear hf6 H5
    go_wp2_with fail
    refine (Is_chain ps (.iface T x) kk kk w6 H6.out.1.err).mono ?_
    rintro e w7 ⟨rfl, hw⟩
    obtain rfl := hw
    rw [show (kk == kk) = true from beq_self_eq_true kk]
    have hcell := H6.out.2.2
    have hkk : (kk == kk) = true := beq_self_eq_true kk
    go_wp2_with fail
    refine (fis_zero (.iface T x) w6).mono ?_
    rintro e w8 ⟨rfl, hw⟩
    obtain rfl := hw
    go_wp2
    go_ret
    exact ⟨rfl, H6.out.2.1.below (Nat.le_refl _) (fun _ h => h.elim)⟩
end Go.Proofs.YtcmmjkkpjclfgaaDoor
