import Derived.Test.YtcmmjkkpjclfgaaDoorNone2
namespace Go.Proofs.YtcmmjkkpjclfgaaDoor
open Go.RowKit

theorem Row.fr {w w' : World} {a : Option Addr} {vs : List Value} (h : Row w a vs) (f : Fr (fun _ => False) w w') : Row w' a vs := h.keep f (fun _ _ h => h)

set_option maxRecDepth 100000 in
set_option maxHeartbeats 1000000 in
theorem none_walk (a0 : Option Addr) (c : Nat) (ps : List Int) (s : ByteArray) (w : World) (hG : Glob w) (hin : Row w a0 (I64 ps)) (hmax : ps.length * 8 ≤ 140737488355328) :
    Calls Tryd.prog 5 #[.slice a0 ps.length c, .string s] w fun e w' => e = .returned (.bool true) ∧ Below w.heap.size w w' := by
  have HG : Hid (Glob w ∧ Row w a0 (I64 ps) ∧ ps.length * 8 ≤ 140737488355328) := ⟨hG, hin, hmax⟩
  clear hG hin hmax
  go_enter Tryd.func5, Tryd.ntmps5
  go_wp2_with fail
  refine (at_nil a0 ps.length c w).mono ?_
  rintro e w0 ⟨rfl, rfl⟩
  go_wp2_with fail
  refine (errnew_any s w).mono ?_
  rintro e w1 ⟨rfl, h1⟩
  have f1 : Fr (fun _ => False) w w1 := by rw [h1]; exact (Fr.refl _ _).alloc _
  have H1 : Hid (Fr (fun _ => False) w w1) := f1
  clear h1 f1
  generalize Value.pointer (some ⟨w.heap.size, 0, none⟩) = xs at *
  go_wp2_with fail
  refine (at_any ps 132 xs a0 c w1 (HG.out.2.1.fr H1.out) (by have := HG.out.2.2; omega)).mono ?_
  rintro e w2 ⟨v2, rfl, hv2, hf2⟩
  have H2 : Hid (Fr (fun _ => False) w w2 ∧ Wraps w2 ps v2 (.iface 132 xs)) := ⟨H1.out.trans hf2, hv2⟩
  obtain ⟨T2, x2, rfl⟩ := hv2.iface
  clear hv2 hf2 H1
  go_wp2_with fail
  refine (tells_any w2 (HG.out.1.keep H2.out.1 (fun h => h))).mono ?_
  rintro e w3 ⟨rfl, hf3⟩
  have H3 : Hid (Fr (fun _ => False) w w3 ∧ Wraps w3 ps (.iface T2 x2) (.iface 132 xs)) := ⟨H2.out.1.trans hf3, H2.out.2.fr hf3⟩
  clear hf3 H2
  go_wp2_with fail
  refine (kind_nil w3).mono ?_
  rintro e w4 ⟨rfl, hf4⟩
  have H4 : Hid (Fr (fun _ => False) w w4 ∧ Wraps w4 ps (.iface T2 x2) (.iface 132 xs)) := ⟨H3.out.1.trans hf4, H3.out.2.fr hf4⟩
  clear hf4 H3
  go_wp2_with fail
  refine (path_nil w4).mono ?_
  rintro e w5 ⟨rfl, hf5⟩
  have H5 : Hid (Fr (fun _ => False) w w5 ∧ Wraps w5 ps (.iface T2 x2) (.iface 132 xs)) := ⟨H4.out.1.trans hf5, H4.out.2.fr hf5⟩
  clear hf5 H4
  go_wp2_with fail
  refine (text_nil w5).mono ?_
  rintro e w6 ⟨rfl, hf6⟩
  have H6 : Hid (Fr (fun _ => False) w w6 ∧ Wraps w6 ps (.iface T2 x2) (.iface 132 xs)) := ⟨H5.out.1.trans hf6, H5.out.2.fr hf6⟩
  clear hf6 H5
  rw [show okS = ⟨#[111, 107]⟩ from rfl]
  go_wp2_with fail
  refine (fis_nil0 w6).mono ?_
  rintro e w7 ⟨rfl, rfl⟩
  go_wp2_with fail
  refine (fis_nil1 w6).mono ?_
  rintro e w8 ⟨rfl, hf8⟩
  have H8 : Hid (Fr (fun _ => False) w w8 ∧ Wraps w8 ps (.iface T2 x2) (.iface 132 xs)) := ⟨H6.out.1.trans hf8, H6.out.2.fr hf8⟩
  clear hf8 H6
  go_wp2_with fail
  refine (kind_none ps T2 x2 xs w8 (HG.out.1.keep H8.out.1 (fun h => h)) H8.out.2).mono ?_
  rintro e w9 ⟨rfl, hf9⟩
  have H9 : Hid (Fr (fun _ => False) w w9 ∧ Wraps w9 ps (.iface T2 x2) (.iface 132 xs)) := ⟨H8.out.1.trans hf9, H8.out.2.fr hf9⟩
  clear hf9 H8
  go_wp2_with fail
  refine (path_any (noPlace_errS xs) ps (.iface T2 x2) w9 (HG.out.1.keep H9.out.1 (fun h => h)) H9.out.2 HG.out.2.2).mono ?_
  rintro e w10 ⟨a10, c10, rfl, o10, hf10, _⟩
  have H10 : Hid (Fr (fun _ => False) w w10 ∧ Row w10 a10 (I64 ps)) := ⟨H9.out.1.trans hf10, own_row3 o10⟩
  clear hf10 o10 H9
  go_wp2_with fail
  refine (same_any a10 a0 c10 c ps ps w10 H10.out.2 (HG.out.2.1.fr H10.out.1) (by have := HG.out.2.2; omega) (by have := HG.out.2.2; omega)).mono ?_
  rintro e w11 ⟨rfl, j, h11⟩
  have H11 : Hid (Below w.heap.size w w11) := by
    rw [h11]; exact (H10.out.1.below (Nat.le_refl _) (fun _ h => h.elim)).trans ⟨rfl, rfl, rfl, Nat.le_refl _, fun _ _ => rfl⟩
  clear h11 H10
  rw [show decide (ps = ps) = true from decide_eq_true rfl]
  go_wp2
  go_ret
  exact ⟨rfl, H11⟩
end Go.Proofs.YtcmmjkkpjclfgaaDoor
