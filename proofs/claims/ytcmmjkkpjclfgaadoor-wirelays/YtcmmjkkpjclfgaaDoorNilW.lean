import Derived.Test.YtcmmjkkpjclfgaaDoorSec
namespace Go.Proofs.YtcmmjkkpjclfgaaDoor
open Go.RowKit

theorem nil_byte (w : World) : Calls Tryd.prog 28 #[.pointer none, .int .u8 1] w fun e w' => e = .returned (.tuple #[]) ∧ w = w' := by
  go_enter Tryd.func28, Tryd.ntmps28
  go_wp2
  (try simp only [Exit.inBlock, Exit.then])
  refine bodyPost_ret (results_none rfl _ _ _) rfl ?_
  exact ⟨rfl, rfl⟩
theorem nil_uint (n : Int) (w : World) : Calls Tryd.prog 29 #[.pointer none, .int .u64 n] w fun e w' => e = .returned (.tuple #[]) ∧ w = w' := by
  go_enter Tryd.func29, Tryd.ntmps29
  go_wp2
  (try simp only [Exit.inBlock, Exit.then])
  refine bodyPost_ret (results_none rfl _ _ _) rfl ?_
  exact ⟨rfl, rfl⟩
theorem nil_int (w : World) : Calls Tryd.prog 30 #[.pointer none, .int .i64 1] w fun e w' => e = .returned (.tuple #[]) ∧ w = w' := by
  go_enter Tryd.func30, Tryd.ntmps30
  go_wp2_with (go_at_call 29; refine (nil_uint _ w).mono ?_; rintro e w' ⟨rfl, rfl⟩)
  go_end0
  exact ⟨rfl, rfl⟩
theorem nil_raw (v : Value) (w : World) : Calls Tryd.prog 31 #[.pointer none, v] w fun e w' => e = .returned (.tuple #[]) ∧ w = w' := by
  go_enter Tryd.func31, Tryd.ntmps31
  go_wp2
  (try simp only [Exit.inBlock, Exit.then])
  refine bodyPost_ret (results_none rfl _ _ _) rfl ?_
  exact ⟨rfl, rfl⟩
theorem nil_sec (w : World) : Calls Tryd.prog 32 #[.pointer none, .slice none 0 0] w fun e w' => e = .returned (.tuple #[]) ∧ w = w' := by
  go_enter Tryd.func32, Tryd.ntmps32
  go_wp2_with (first | (go_at_call 29; refine (nil_uint _ w).mono ?_; rintro e w' ⟨rfl, rfl⟩) | (go_at_call 31; refine (nil_raw _ w).mono ?_; rintro e w' ⟨rfl, rfl⟩))
  go_end0
  exact ⟨rfl, rfl⟩
theorem nil_bytes (w : World) : Calls Tryd.prog 39 #[.pointer none] w fun e w' => e = .returned (.slice none 0 0) ∧ w = w' := by
  go_enter Tryd.func39, Tryd.ntmps39
  go_wp2
  go_ret
  exact ⟨rfl, rfl⟩
theorem nil_at (w : World) : Calls Tryd.prog 42 #[.pointer none] w fun e w' => e = .returned (.int .i64 0) ∧ w = w' := by
  go_enter Tryd.func42, Tryd.ntmps42
  go_wp2
  go_ret
  exact ⟨rfl, rfl⟩
theorem nil_left (w : World) : Calls Tryd.prog 41 #[.pointer none] w fun e w' => e = .returned (.int .i64 0) ∧ w = w' := by
  go_enter Tryd.func41, Tryd.ntmps41
  go_wp2
  go_ret
  exact ⟨rfl, rfl⟩
theorem nil_copy (w : World) : Calls Tryd.prog 43 #[.pointer none] w fun e w' => e = .returned (.pointer none) ∧ w = w' := by
  go_enter Tryd.func43, Tryd.ntmps43
  go_wp2
  go_ret
  exact ⟨rfl, rfl⟩
/-- an error that tells ErrArg, and a world that has only grown -/
def NilErr (w w' : World) (v : Value) : Prop := Wraps w' [0] v (.iface 29 (.int .i64 1)) ∧ Fr (fun _ => False) w w'
theorem nil_fail (w : World) : Calls Tryd.prog 83 #[.pointer none, .int .i64 1] w fun e w' => ∃ v, e = .returned v ∧ NilErr w w' v := by
  have D := at_any [0] 29 (.int .i64 1) (some ⟨w.heap.size, 0, none⟩) 1 (w.alloc (.cells #[.int .i64 0] 3)) (.inr ⟨_, rfl, cell_one_new _ _ _⟩) (by simp)
  go_enter Tryd.func83, Tryd.ntmps83
  go_wp2_with fail
  refine (nil_at w).mono ?_
  rintro e w' ⟨rfl, rfl⟩
  go_wp2_with fail
  refine D.mono ?_
  rintro e w' ⟨v, rfl, hv, hf⟩
  have HV : Hid (NilErr w w' v) := ⟨hv, ((Fr.refl _ w).alloc _).trans hf⟩
  clear D hv hf
  go_wp2
  go_ret
  exact ⟨_, rfl, HV.out⟩
theorem nil_rbyte (w : World) : Calls Tryd.prog 33 #[.pointer none] w fun e w' => ∃ v, e = .returned (.tuple #[.int .u8 0, v]) ∧ NilErr w w' v := by
  go_enter Tryd.func33, Tryd.ntmps33
  go_wp2_with fail
  refine (nil_fail w).mono ?_
  rintro e w' ⟨v, rfl, hv⟩
  have HV : Hid (NilErr w w' v) := hv
  clear hv
  go_wp2
  go_ret2
  exact ⟨_, rfl, HV.out⟩
theorem nil_ruint (n : Int) (w : World) : Calls Tryd.prog 34 #[.pointer none, .int .u64 n] w fun e w' => ∃ v, e = .returned (.tuple #[.int .u64 0, v]) ∧ NilErr w w' v := by
  go_enter Tryd.func34, Tryd.ntmps34
  go_wp2_with fail
  refine (nil_fail w).mono ?_
  rintro e w' ⟨v, rfl, hv⟩
  have HV : Hid (NilErr w w' v) := hv
  clear hv
  go_wp2
  go_ret2
  exact ⟨_, rfl, HV.out⟩
theorem nil_rint (w : World) : Calls Tryd.prog 35 #[.pointer none] w fun e w' => ∃ v, e = .returned (.tuple #[.int .i64 0, v]) ∧ NilErr w w' v := by
  go_enter Tryd.func35, Tryd.ntmps35
  go_wp2_with fail
  refine (nil_ruint _ w).mono ?_
  rintro e w' ⟨v, rfl, hv⟩
  obtain ⟨T, x, rfl⟩ := hv.1.iface
  have HV : Hid (NilErr w w' (.iface T x)) := hv
  clear hv
  go_wp2
  go_ret2
  exact ⟨_, rfl, HV.out⟩
theorem nil_rraw (w : World) : Calls Tryd.prog 36 #[.pointer none, .int .i64 0] w fun e w' => ∃ v, e = .returned (.tuple #[.slice none 0 0, v]) ∧ NilErr w w' v := by
  go_enter Tryd.func36, Tryd.ntmps36
  go_wp2_with fail
  refine (nil_fail w).mono ?_
  rintro e w' ⟨v, rfl, hv⟩
  have HV : Hid (NilErr w w' v) := hv
  clear hv
  go_wp2
  go_ret2
  exact ⟨_, rfl, HV.out⟩
theorem nil_rsec (w : World) : Calls Tryd.prog 37 #[.pointer none] w fun e w' => ∃ v, e = .returned (.tuple #[.pointer none, v]) ∧ NilErr w w' v := by
  go_enter Tryd.func37, Tryd.ntmps37
  go_wp2_with fail
  refine (nil_copy w).mono ?_
  rintro e w' ⟨rfl, rfl⟩
  go_wp2_with fail
  refine (nil_ruint _ w).mono ?_
  rintro e w' ⟨v, rfl, hv⟩
  obtain ⟨T, x, rfl⟩ := hv.1.iface
  have HV : Hid (NilErr w w' (.iface T x)) := hv
  clear hv
  go_wp2
  go_ret2
  exact ⟨_, rfl, HV.out⟩
theorem nil_end (w : World) : Calls Tryd.prog 40 #[.pointer none] w fun e w' => ∃ v, e = .returned v ∧ NilErr w w' v := by
  go_enter Tryd.func40, Tryd.ntmps40
  go_wp2_with fail
  refine (nil_fail w).mono ?_
  rintro e w' ⟨v, rfl, hv⟩
  have HV : Hid (NilErr w w' v) := hv
  clear hv
  go_wp2
  go_ret
  exact ⟨_, rfl, HV.out⟩
end Go.Proofs.YtcmmjkkpjclfgaaDoor
