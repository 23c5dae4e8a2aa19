import Derived.Test.YtcmmjkkpjclfgaaDoorRb
namespace Go.Proofs.YtcmmjkkpjclfgaaDoor
open Go.RowKit

set_option maxRecDepth 100000 in
set_option maxHeartbeats 400000 in
theorem rint_bad2 (g rb : Nat) (bs : List UInt8) (p q : Nat) (n s k : Nat) (w : World) (h : Rdr w g rb bs p q) (hn : numGo (leftOf bs p q) 0 0 = (n, s, k)) (hk : k ≠ 0) :
    Calls Tryd.prog 35 #[.pointer (some ⟨g, 0, none⟩)] w fun e w' => ∃ v, e = .returned (.tuple #[.int .i64 0, v]) ∧ Wraps w' [(p : Int)] v (.iface 29 (.int .i64 k)) ∧ Fr (fun _ => False) w w' := by
  have C := ruint_bad g rb bs p q 18446744073709551615 n s k w h hn hk
  clear h hn hk
  go_enter Tryd.func35, Tryd.ntmps35
  go_wp2_with fail
  refine C.mono ?_
  rintro e w' ⟨v, rfl, hv, hf⟩
  obtain ⟨T, x, rfl⟩ := hv.iface
  have HV : Hid (Wraps w' [(p : Int)] (.iface T x) (.iface 29 (.int .i64 k)) ∧ Fr (fun _ => False) w w') := ⟨hv, hf⟩
  clear C hv hf
  go_wp2
  go_ret2
  exact ⟨_, rfl, HV.out⟩
set_option maxRecDepth 100000 in
set_option maxHeartbeats 400000 in
theorem rbyte_short (g rb : Nat) (bs : List UInt8) (p : Nat) (w : World) (h : Rdr w g rb bs p p) :
    Calls Tryd.prog 33 #[.pointer (some ⟨g, 0, none⟩)] w fun e w' => ∃ v, e = .returned (.tuple #[.int .u8 0, v]) ∧ Wraps w' [(p : Int)] v (.iface 29 (.int .i64 2)) ∧ Fr (fun _ => False) w w' := by
  have L := left_any g rb bs p p w h
  rw [Nat.sub_self] at L
  have F := fun j => fail_any g rb bs p p 2 (w.drewN j) (h.drewN j)
  clear h
  go_enter Tryd.func33, Tryd.ntmps33
  go_wp2_with fail
  refine L.mono ?_
  rintro e w' ⟨rfl, j, rfl⟩
  clear L
  go_wp2_with fail
  refine (F j).mono ?_
  rintro e w' ⟨v, rfl, hv, hf⟩
  have HV : Hid (Wraps w' [(p : Int)] v (.iface 29 (.int .i64 2)) ∧ Fr (fun _ => False) w w') := ⟨hv, (fr_drewN _ _).trans hf⟩
  clear F hv hf
  go_wp2
  go_ret2
  exact ⟨_, rfl, HV.out⟩
set_option maxRecDepth 100000 in
set_option maxHeartbeats 400000 in
theorem rraw_neg (g rb : Nat) (bs : List UInt8) (p q : Nat) (n : Int) (hn : n < 0) (w : World) (h : Rdr w g rb bs p q) :
    Calls Tryd.prog 36 #[.pointer (some ⟨g, 0, none⟩), .int .i64 n] w fun e w' => ∃ v, e = .returned (.tuple #[.slice none 0 0, v]) ∧ Wraps w' [(p : Int)] v (.iface 29 (.int .i64 1)) ∧ Fr (fun _ => False) w w' := by
  have F := fail_any g rb bs p q 1 w h
  clear h
  go_enter Tryd.func36, Tryd.ntmps36
  go_wp2_with fail
  refine F.mono ?_
  rintro e w' ⟨v, rfl, hv, hf⟩
  have HV : Hid (Wraps w' [(p : Int)] v (.iface 29 (.int .i64 1)) ∧ Fr (fun _ => False) w w') := ⟨hv, hf⟩
  clear F hv hf
  go_wp2
  go_ret2
  exact ⟨_, rfl, HV.out⟩
set_option maxRecDepth 100000 in
set_option maxHeartbeats 400000 in
theorem rraw_short (g rb : Nat) (bs : List UInt8) (p q : Nat) (n : Int) (hn : 0 ≤ n) (w : World) (h : Rdr w g rb bs p q) (hs : ((q - p : Nat) : Int) < n) :
    Calls Tryd.prog 36 #[.pointer (some ⟨g, 0, none⟩), .int .i64 n] w fun e w' => ∃ v, e = .returned (.tuple #[.slice none 0 0, v]) ∧ Wraps w' [(p : Int)] v (.iface 29 (.int .i64 2)) ∧ Fr (fun _ => False) w w' := by
  have L := left_any g rb bs p q w h
  have F := fun j => fail_any g rb bs p q 2 (w.drewN j) (h.drewN j)
  clear h
  go_enter Tryd.func36, Tryd.ntmps36
  go_wp2_with fail
  refine L.mono ?_
  rintro e w' ⟨rfl, j, rfl⟩
  clear L
  go_wp2_with fail
  refine (F j).mono ?_
  rintro e w' ⟨v, rfl, hv, hf⟩
  have HV : Hid (Wraps w' [(p : Int)] v (.iface 29 (.int .i64 2)) ∧ Fr (fun _ => False) w w') := ⟨hv, (fr_drewN _ _).trans hf⟩
  clear F hv hf
  go_wp2
  go_ret2
  exact ⟨_, rfl, HV.out⟩
set_option maxRecDepth 100000 in
set_option maxHeartbeats 400000 in
theorem end_bad (g rb : Nat) (bs : List UInt8) (p q : Nat) (w : World) (h : Rdr w g rb bs p q) (hpq : p < q) :
    Calls Tryd.prog 40 #[.pointer (some ⟨g, 0, none⟩)] w fun e w' => ∃ v, e = .returned v ∧ Wraps w' [(p : Int)] v (.iface 29 (.int .i64 3)) ∧ Fr (fun _ => False) w w' := by
  have L := left_any g rb bs p q w h
  have F := fun j => fail_any g rb bs p q 3 (w.drewN j) (h.drewN j)
  have hl : (0 : Int) < ((q - p : Nat) : Int) := by omega
  clear h
  go_enter Tryd.func40, Tryd.ntmps40
  go_wp2_with fail
  refine L.mono ?_
  rintro e w' ⟨rfl, j, rfl⟩
  clear L
  go_wp2_with fail
  refine (F j).mono ?_
  rintro e w' ⟨v, rfl, hv, hf⟩
  have HV : Hid (Wraps w' [(p : Int)] v (.iface 29 (.int .i64 3)) ∧ Fr (fun _ => False) w w') := ⟨hv, (fr_drewN _ _).trans hf⟩
  clear F hv hf
  go_wp2
  go_ret
  exact ⟨_, rfl, HV.out⟩
end Go.Proofs.YtcmmjkkpjclfgaaDoor
