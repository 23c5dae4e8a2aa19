import Derived.Test.YtcmmjkkpjclfgaaDoorNames
import Derived.Test.YtcmmjkkpjclfgaaDoorDig
namespace Go.Proofs.YtcmmjkkpjclfgaaDoor
open Go.RowKit Go.Lib

theorem line_first (ps : List Int) : line ps 1 = itoa (ps.getD 0 0) := by simp [line]
theorem line_next (ps : List Int) {k : Nat} (h : 0 < k) : line ps (k + 1) = line ps k ++ [46] ++ itoa (ps.getD k 0) := by
  rw [line, if_neg (by omega)]
theorem not_empty {l : List UInt8} (h : 0 < l.length) : l.isEmpty = false := by
  cases l with
  | nil => simp at h
  | cons a l => rfl
set_option maxRecDepth 100000 in
set_option maxHeartbeats 1000000 in
theorem rtext_any (k0 : Int) (ps : List Int) (a : Option Addr) (c : Nat) (w : World) (hr : Row w a (I64 ps)) (hl : ps.length ≤ 48) (hb : ∀ p ∈ ps, In64 p) :
    Calls Tryd.prog 21 #[.int .i64 k0, .slice a ps.length c] w fun e w' => e = .returned (.string ⟨(textOf k0 ps).toArray⟩) ∧ Fr (fun _ => False) w w' := by
  have HR : Hid (Row w a (I64 ps) ∧ ∀ p ∈ ps, In64 p) := ⟨hr, hb⟩
  have hl' : (ps.length : Int) ≤ 48 := by omega
  clear hr hb
  go_enter Tryd.func21, Tryd.ntmps21
  go_wp2
  go_loopw [5, 6] (fun sv iv wr => ∃ k : Nat, k ≤ ps.length ∧ iv = .int .i64 k ∧ sv = .string ⟨(line ps k).toArray⟩ ∧ Hid (Fr (fun _ => False) w wr)) (fun _ iv _ => ps.length - (intOf iv).toNat)
  case atStart => exact ⟨0, Nat.zero_le _, rfl, rfl, Fr.refl _ _⟩
  case round =>
    obtain ⟨k, hk, rfl, rfl, hS⟩ := hrel
    have hll := line_len HR.out.2 k
    have HLL : Hid ((line ps k).length ≤ 1056) := by unfold Hid; omega
    have hll' : (line ps k).length ≤ 1056 := HLL.out
    clear hll
    by_cases hlt : k < ps.length
    · have k1 : (k : Int) < ps.length := by omega
      have k0' : (0 : Int) ≤ k := by omega
      obtain ⟨x, hx⟩ : ∃ x, x = ps.getD k 0 := ⟨_, rfl⟩
      have hI : In64 x := by rw [hx]; exact getD_in HR.out.2 k
      have hv : (I64 ps)[k]? = some (.int .i64 x) := by simp [I64, hlt, hx]
      obtain ⟨b, o, rfl, hcell⟩ := (HR.out.1.keep hS.out (fun _ _ h => h)).at hv
      have D := fun w => digits_any x hI w
      have HX : Hid (x = ps.getD k 0 ∧ (itoa x).length ≤ 21) := ⟨hx, itoa_length_le _ hI.1 hI.2⟩
      have hil : (itoa x).length ≤ 21 := HX.out.2
      clear hx hI hv
      by_cases h0 : 0 < k
      · have h0' : (0 : Int) < k := by omega
        have HN : Hid (line ps (k + 1) = line ps k ++ [46] ++ itoa x) := by rw [HX.out.1]; exact line_next ps h0
        generalize line ps k = ln at *
        generalize itoa x = ix at *
        go_wp2_with fail
        refine (D wr).mono ?_
        rintro e w1 ⟨rfl, f1⟩
        have F1 : Hid (Fr (fun _ => False) w w1) := hS.out.trans f1
        clear D f1
        go_wp2
        go_roundw
        case rel =>
          refine ⟨k + 1, by omega, by go_num, ?_, F1⟩
          rw [HN.out, str_append, str_append]
        case measure => simp [intOf]; omega
      · obtain rfl : k = 0 := by omega
        have HN : Hid (line ps (0 + 1) = itoa x) := by rw [HX.out.1]; exact line_first ps
        have h0' : ¬ (0 : Int) < ((0 : Nat) : Int) := by omega
        have hcell0 : wr.cell? ⟨b, o, none⟩ = some (.int .i64 x) := hcell
        clear hcell
        have e0 : line ps 0 = [] := rfl
        rw [e0]
        clear e0
        generalize itoa x = ix at *
        go_wp2_with fail
        refine (D wr).mono ?_
        rintro e w1 ⟨rfl, f1⟩
        have F1 : Hid (Fr (fun _ => False) w w1) := hS.out.trans f1
        clear D f1
        go_wp2
        go_roundw
        case rel =>
          refine ⟨0 + 1, by omega, by go_num, ?_, F1⟩
          rw [HN.out]
          first | rfl | (rw [str_append]; rfl) | simp
        case measure => simp [intOf]; omega
    · obtain rfl : k = ps.length := by omega
      have hnl := nameL_len k0
      have N := fun w => rname_any k0 w
      by_cases h0 : ps.length = 0
      · have HN : Hid (textOf k0 ps = nameL k0) := by unfold Hid textOf headL; rw [if_pos h0]; rfl
        have e0 : line ps ps.length = [] := by rw [h0]; rfl
        rw [e0]
        clear e0
        generalize nameL k0 = nl at *
        go_wp2_with fail
        refine (N wr).mono ?_
        rintro e w1 ⟨rfl, f1⟩
        have F1 : Hid (Fr (fun _ => False) w w1) := hS.out.trans f1
        clear N f1
        go_wp2
        go_ret
        refine ⟨?_, F1.out⟩
        show Ending.returned (.string (⟨([] : List UInt8).toArray⟩ ++ ⟨nl.toArray⟩)) = _
        rw [str_append, HN.out]
        rfl
      · have HN : Hid (textOf k0 ps = line ps ps.length ++ [32] ++ nameL k0) := by unfold Hid textOf headL; rw [if_neg h0]
        have hne := not_empty (line_pos ps (k := ps.length) (by omega))
        generalize line ps ps.length = ln at *
        generalize nameL k0 = nl at *
        go_wp2_with fail
        refine (N wr).mono ?_
        rintro e w1 ⟨rfl, f1⟩
        have F1 : Hid (Fr (fun _ => False) w w1) := hS.out.trans f1
        clear N f1
        go_wp2
        go_ret
        refine ⟨?_, F1.out⟩
        show Ending.returned (.string (⟨ln.toArray⟩ ++ ⟨[32].toArray⟩ ++ ⟨nl.toArray⟩)) = _
        rw [str_append, str_append, HN.out]
end Go.Proofs.YtcmmjkkpjclfgaaDoor
