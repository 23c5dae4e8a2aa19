import Derived.Test.YtcmmjkkpjclfgaaDoorTextG
import Derived.Test.YtcmmjkkpjclfgaaDoorMade
namespace Go.Proofs.YtcmmjkkpjclfgaaDoor
open Go.RowKit Go.Lib

theorem accK_in {rs : List RowI} (h : ∀ r ∈ rs, ∀ n ∈ r.zs, In64 n) : ∀ k, ∀ p ∈ accK rs k, In64 p
  | 0 => by simp [accK]
  | k + 1 => by
    intro p hp
    unfold accK at hp
    rcases List.mem_append.1 hp with hp | hp
    · split at hp
      · rename_i r hr
        unfold RowI.cut at hp
        exact h r (List.mem_of_getElem? hr) p (List.mem_of_mem_take hp)
      · simp at hp
    · exact accK_in h k p hp
theorem Tab.keep {w w' : World} (h : Tab w) (f : Fr (fun _ => False) w w') : Tab w' :=
  tabBelow_of_tabIs h w' (f.below (Nat.le_refl _) (fun _ h => h.elim))

set_option maxRecDepth 100000 in
set_option maxHeartbeats 1000000 in
theorem places_walk (k : Int) (a0 : Option Addr) (c0 : Nat) (rs : List RowI) (w : World) (hG : Glob w) (hT : Tab w) (hr : Row w a0 (rs.map RowI.val)) (hok : ∀ r ∈ rs, r.Ok w) (hmax : rs.length ≤ 140737488355328) (hin : ∀ r ∈ rs, ∀ n ∈ r.zs, In64 n) :
    Calls Tryd.prog 3 #[.int .i64 k, .slice a0 rs.length c0] w fun e w' => e = .returned (.bool true) ∧ Below w.heap.size w w' := by
  obtain ⟨kk, hkk⟩ : ∃ kk, kk = if k = 0 then 9 else k := ⟨_, rfl⟩
  have HK : Hid (kk = if k = 0 then 9 else k) := hkk
  have HG : Hid (Glob w ∧ Tab w) := ⟨hG, hT⟩
  have C := made_any kk a0 c0 rs w hr hok hmax
  have HP : Hid ((accK rs (min rs.length 8)).length ≤ 48 ∧ ∀ p ∈ accK rs (min rs.length 8), In64 p) := ⟨by have := accK_len rs (min rs.length 8); omega, accK_in hin _⟩
  generalize accK rs (min rs.length 8) = ps at *
  clear hkk hG hT hr hok hmax hin
  go_enter Tryd.func3, Tryd.ntmps3
  go_upto_if 8 with fail
  go_cut [0] (fun v wx => w = wx ∧ v = .int .i64 kk)
  case first =>
    by_cases h0 : k = 0
    · have HKE : Hid (kk = 9) := by have := HK.out; rw [if_pos h0] at this; exact this
      have h0' : (k == 0) = true := by simp [h0]
      have H0 : Hid (k = 0) := h0
      clear h0
      go_wp2
      go_meet
      case rel => exact ⟨rfl, by rw [HKE.out]⟩
    · have HKE : Hid (kk = k) := by have := HK.out; rw [if_neg h0] at this; exact this
      have h0' : (k == 0) = false := by simp [h0]
      go_wp2
      go_meet
      case rel => exact ⟨rfl, by rw [HKE.out]⟩
  case rest =>
    obtain ⟨rfl, rfl⟩ := hcut
    go_wp2_with fail
    refine C.mono ?_
    rintro e w1 ⟨v, a, c, rfl, hM⟩
    obtain ⟨T, x, rfl⟩ := hM.err.iface
    have H1 : Hid (Wraps w1 ps (.iface T x) (.iface 29 (.int .i64 kk)) ∧ Fr (fun _ => False) w w1 ∧ Row w1 a (I64 ps)) := ⟨hM.err, hM.fr, own_row3 hM.own.2⟩
    clear C hM
    go_wp2_with fail
    refine (tells_any w1 (HG.out.1.keep H1.out.2.1 (fun h => h))).mono ?_
    rintro e w2 ⟨rfl, f2⟩
    have H2 : Hid (Wraps w2 ps (.iface T x) (.iface 29 (.int .i64 kk)) ∧ Fr (fun _ => False) w w2 ∧ Row w2 a (I64 ps)) := ⟨H1.out.1.fr f2, H1.out.2.1.trans f2, row_fr H1.out.2.2 f2⟩
    clear H1 f2
    go_wp2_with fail
    refine (kind_any ps (.iface T x) kk w2 (HG.out.1.keep H2.out.2.1 (fun h => h)) H2.out.1.err).mono ?_
    rintro e w3 ⟨rfl, f3⟩
    have H3 : Hid (Wraps w3 ps (.iface T x) (.iface 29 (.int .i64 kk)) ∧ Fr (fun _ => False) w w3 ∧ Row w3 a (I64 ps)) := ⟨H2.out.1.fr f3, H2.out.2.1.trans f3, row_fr H2.out.2.2 f3⟩
    clear H2 f3
    have hkk : (kk == kk) = true := beq_self_eq_true kk
    go_wp2_with fail
    refine (path_any (noPlace_errno kk) ps (.iface T x) w3 (HG.out.1.keep H3.out.2.1 (fun h => h)) H3.out.1 (by have := HP.out.1; omega)).mono ?_
    rintro e w4 ⟨a4, c4, rfl, o4, f4, _⟩
    have H4 : Hid (Wraps w4 ps (.iface T x) (.iface 29 (.int .i64 kk)) ∧ Fr (fun _ => False) w w4 ∧ Row w4 a (I64 ps) ∧ Row w4 a4 (I64 ps)) := ⟨H3.out.1.fr f4, H3.out.2.1.trans f4, row_fr H3.out.2.2 f4, own_row3 o4⟩
    clear H3 f4 o4
    go_wp2_with fail
    refine (same_any a4 a c4 c ps ps w4 H4.out.2.2.2 H4.out.2.2.1 (by have := HP.out.1; omega) (by have := HP.out.1; omega)).mono ?_
    rintro e w5 ⟨rfl, j5, h5⟩
    have H5 : Hid (Wraps w5 ps (.iface T x) (.iface 29 (.int .i64 kk)) ∧ Fr (fun _ => False) w w5 ∧ Row w5 a (I64 ps)) := by
      have f : Fr (fun _ => False) w4 w5 := by rw [h5]; exact Fr.ofBelow ⟨rfl, rfl, rfl, Nat.le_refl _, fun _ _ => rfl⟩
      exact ⟨H4.out.1.fr f, H4.out.2.1.trans f, row_fr H4.out.2.2.1 f⟩
    clear H4 h5
    rw [show decide (ps = ps) = true from by simp]
    go_wp2_with fail
    refine (text_any ps kk (.iface T x) w5 (HG.out.1.keep H5.out.2.1 (fun h => h)) (HG.out.2.keep H5.out.2.1) H5.out.1 HP.out.1 HP.out.2).mono ?_
    rintro e w6 ⟨rfl, f6⟩
    have H6 : Hid (Fr (fun _ => False) w w6 ∧ Row w6 a (I64 ps)) := ⟨H5.out.2.1.trans f6, row_fr H5.out.2.2 f6⟩
    clear H5 f6
    go_wp2_with fail
    refine (rtext_any kk ps a c w6 H6.out.2 HP.out.1 HP.out.2).mono ?_
    rintro e w7 ⟨rfl, f7⟩
    have H7 : Hid (Fr (fun _ => False) w w7) := H6.out.1.trans f7
    clear H6 f7
    generalize textOf kk ps = tx at *
    go_wp2
    go_ret
    exact ⟨rfl, H7.out.below (Nat.le_refl _) (fun _ h => h.elim)⟩
end Go.Proofs.YtcmmjkkpjclfgaaDoor
