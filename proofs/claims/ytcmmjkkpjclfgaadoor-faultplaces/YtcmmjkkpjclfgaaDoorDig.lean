import Derived.Test.YtcmmjkkpjclfgaaDoorText
import Derived.Test.YtcmmjkkpjclfgaaDoorLine
namespace Go.Proofs.YtcmmjkkpjclfgaaDoor
open Go.RowKit Go.Lib

theorem str_append (a b : List UInt8) : (⟨a.toArray⟩ : ByteArray) ++ ⟨b.toArray⟩ = ⟨(a ++ b).toArray⟩ := by
  apply ByteArray.ext
  simp
theorem new_byte (w : World) (c : UInt8) : Row (w.alloc (.cells #[.int .u8 (c.toNat : Int)] 5)) (some ⟨w.heap.size, 0, none⟩) (B8 [c]) := by
  have h := heap_alloc_new w (.cells #[.int .u8 (c.toNat : Int)] 5)
  exact rowObj_row (xs := [c]) h
set_option maxRecDepth 100000 in
set_option maxHeartbeats 1000000 in
theorem large_any (a0 : Int) (h0 : 0 ≤ a0) (h1 : a0 < 18446744073709551616) (w : World) : Calls Tryd.prog 105 #[.int .u64 a0] w fun e w' => e = .returned (.string ⟨(decDigits a0.toNat).toArray⟩) ∧ Fr (fun _ => False) w w' := by
  obtain ⟨D, hD⟩ : ∃ D, D = decDigits a0.toNat := ⟨_, rfl⟩
  have HD : Hid (D = decDigits a0.toNat) := hD
  have hDl : D.length ≤ 20 := by rw [hD, decDigits_length]; exact nDigits_le20 _ (by omega)
  rw [← hD]
  clear hD
  go_enter Tryd.func105, Tryd.ntmps105
  go_wp2
  go_loopw [0, 3] (fun nv sv wr => ∃ (a : Int) (s : List UInt8), nv = .int .u64 a ∧ 0 ≤ a ∧ a < 18446744073709551616 ∧ sv = .string ⟨s.toArray⟩ ∧ Hid (D = decDigits a.toNat ++ s ∧ Fr (fun _ => False) w wr)) (fun nv _ _ => (intOf nv).toNat)
  case atStart => exact ⟨a0, [], rfl, h0, h1, rfl, by rw [HD.out]; simp, Fr.refl _ _⟩
  case round =>
    obtain ⟨a, s, rfl, n1, n2, rfl, hS⟩ := hrel
    clear h0 h1 HD
    have hsl : s.length ≤ 20 := by have := hS.out.1; rw [this, List.length_append] at hDl; omega
    obtain ⟨c, hc⟩ : ∃ c : UInt8, c = UInt8.ofNat (48 + a.toNat % 10) := ⟨_, rfl⟩
    have hcn : (c.toNat : Int) = 48 + a % 10 := by
      rw [hc, UInt8.toNat_ofNat']
      omega
    have HC : Hid (c = UInt8.ofNat (48 + a.toNat % 10)) := hc
    have hst : (convert 55 9 (.slice (some ⟨wr.heap.size, 0, none⟩) 1 1)).run Tryd.prog (wr.alloc (.cells #[.int .u8 (48 + a % 10)] 5)) = .ok (.string ⟨[c].toArray⟩) (wr.alloc (.cells #[.int .u8 (48 + a % 10)] 5)) := by
      rw [← hcn]
      exact conv_str [c] _ _ _ (new_byte wr c) (fun h => by cases h)
    clear hc hcn
    by_cases hz : a / 10 = 0
    · have hz' : (a / 10 == 0) = true := by simpa using hz
      have HZ : Hid (a.toNat / 10 = 0) := by unfold Hid; omega
      clear hz hDl
      go_wp2
      go_ret
      refine ⟨?_, (hS.out.2).alloc _⟩
      rw [str_append, hS.out.1, dec_last HZ.out, HC.out]
      rfl
    · have hz' : (a / 10 == 0) = false := by simpa using hz
      have HZ : Hid (a.toNat / 10 ≠ 0) := by unfold Hid; omega
      go_wp2
      go_roundw
      case rel =>
        refine ⟨a / 10, [c] ++ s, rfl, by omega, by omega, by rw [str_append], ?_, hS.out.2.alloc _⟩
        rw [hS.out.1, dec_more HZ.out, HC.out, show (a / 10).toNat = a.toNat / 10 by omega]
        simp
      case measure => simp [intOf]; omega
theorem digits_any (n : Int) (h : In64 n) (w : World) : Calls Tryd.prog 75 #[.int .i64 n] w fun e w' => e = .returned (.string ⟨(itoa n).toArray⟩) ∧ Fr (fun _ => False) w w' := by
  obtain ⟨h0, h1⟩ := h
  by_cases hn : n < 0
  · have e : itoa n = [45] ++ decDigits (-(n + 1) + 1).toNat := by rw [itoa_minus hn]; congr 2; omega
    have HE : Hid (itoa n = [45] ++ decDigits (-(n + 1) + 1).toNat) := e
    have C := large_any (-(n + 1) + 1) (by omega) (by omega) w
    have hl : (decDigits (-(n + 1) + 1).toNat).length ≤ 20 := by rw [decDigits_length]; exact nDigits_le20 _ (by omega)
    rw [e]
    clear e
    generalize decDigits (-(n + 1) + 1).toNat = ds at *
    go_enter Tryd.func75, Tryd.ntmps75
    go_wp2_with fail
    refine C.mono ?_
    rintro e w1 ⟨rfl, f⟩
    clear C
    go_wp2
    go_ret
    refine ⟨?_, f⟩
    show Ending.returned (.string (⟨[45].toArray⟩ ++ ⟨ds.toArray⟩)) = _
    rw [str_append]
    rfl
  · have HE : Hid (itoa n = decDigits n.toNat) := itoa_plus hn
    have C := large_any n (by omega) (by omega) w
    go_enter Tryd.func75, Tryd.ntmps75
    go_wp2_with fail
    refine C.mono ?_
    rintro e w1 ⟨rfl, f⟩
    clear C
    go_wp2
    go_ret
    exact ⟨by rw [HE.out]; rfl, f⟩
end Go.Proofs.YtcmmjkkpjclfgaaDoor
