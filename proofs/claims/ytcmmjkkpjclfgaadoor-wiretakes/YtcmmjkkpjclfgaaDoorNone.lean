import Derived.Test.YtcmmjkkpjclfgaaDoorTells
import Derived.Test.YtcmmjkkpjclfgaaDoorErrIs
namespace Go.Proofs.YtcmmjkkpjclfgaaDoor
open Go.RowKit Go.Extern.Stop Go.Stop Go.Extern Go.Lib

theorem Tryd.typeOf132 (v : Value) (w : World) : (ReflectliteType.typeOf #[.iface 132 v]).run Tryd.prog w = .ok (.iface 162 (.agg #[.pointer (some ⟨4, 132, none⟩)])) w := by kernel_rfl
theorem Tryd.assign132a (w : World) : (ReflectliteType.relation "AssignableTo" ReflectliteType.assignableTo #[.agg #[.pointer (some ⟨4, 132, none⟩)], .iface 162 (.agg #[.pointer (some ⟨4, 29, none⟩)])]).run Tryd.prog w = .ok (.bool false) w := by kernel_rfl
theorem Tryd.assign132b (w : World) : (ReflectliteType.relation "AssignableTo" ReflectliteType.assignableTo #[.agg #[.pointer (some ⟨4, 132, none⟩)], .iface 162 (.agg #[.pointer (some ⟨4, 111, none⟩)])]).run Tryd.prog w = .ok (.bool false) w := by kernel_rfl
theorem Tryd.noAs132 (v : Value) (xT : TypeId) (w : World) : (Instr.typeAssert (.iface 132 v) xT 166 true).run Tryd.prog w = .ok (.tuple #[.nilIface, .bool false]) w := run_typeAssert_lacksB Tryd.underlying166 (by kernel_rfl) (by kernel_rfl) v xT w
theorem Tryd.unwrap132 (v : Value) (xT : TypeId) (w : World) : (Instr.typeAssert (.iface 132 v) xT 169 true).run Tryd.prog w = .ok (.tuple #[.nilIface, .bool false]) w := run_typeAssert_lacksB Tryd.underlying169 (by kernel_rfl) (by kernel_rfl) v xT w
theorem Tryd.unwraps132 (v : Value) (xT : TypeId) (w : World) : (Instr.typeAssert (.iface 132 v) xT 170 true).run Tryd.prog w = .ok (.tuple #[.nilIface, .bool false]) w := run_typeAssert_lacksB Tryd.underlying170 (by kernel_rfl) (by kernel_rfl) v xT w

set_option maxRecDepth 100000 in
set_option maxHeartbeats 1000000 in
theorem as_none (ps : List Int) (v x : Value) (t a : Addr) (w : World) (h : Wraps w ps v (.iface 132 x)) :
    Calls Tryd.prog 80 #[v, .iface 37 (.pointer (some t)), .agg #[.pointer (some ⟨4, 37, none⟩), .pointer (some a), .int .u64 150], .iface 162 (.agg #[.pointer (some ⟨4, 29, none⟩)])] w fun e w' =>
      e = .returned (.bool false) ∧ Fr (fun _ => False) w w' := by
  have h81 := @run_callFunc_extern Tryd.prog 81 _ ReflectliteType.typeOf Tryd.func81 (by kernel_rfl) (by kernel_rfl) (by kernel_rfl) (by kernel_rfl)
  have h152 := @run_callFunc_extern Tryd.prog 152 _ (ReflectliteType.relation "AssignableTo" ReflectliteType.assignableTo) Tryd.func152 (by kernel_rfl) (by kernel_rfl) (by kernel_rfl) (by kernel_rfl)
  have mA := Tryd.methodAssignableTo
  have mU := Tryd.methodUnwrap
  have tP := Tryd.typeOf111
  have tE := Tryd.typeOf132
  have aP := Tryd.assignable111
  have aE := Tryd.assign132a
  have nA := Tryd.noAs111
  have uW := Tryd.unwrap111
  have nB := Tryd.noAs132
  have n1 := Tryd.unwrap132
  have n2 := Tryd.unwraps132
  generalize hW : w.alloc (.cells #[.pointer (some ⟨4, 37, none⟩), .pointer (some a), .int .u64 150] 121) = W1
  have hF : Fr (fun _ => False) w W1 := by rw [← hW]; exact (Fr.refl _ w).alloc _
  have HE : Hid (Wraps W1 ps v (.iface 132 x)) := h.fr hF
  have HF : Hid (Fr (fun _ => False) w W1) := hF
  clear h hF
  go_enter Tryd.func80, Tryd.ntmps80
  go_wp2
  clear hW
  go_loopg [0] ps.length (fun n u wr => W1 = wr ∧ ∃ qs : List Int, n = qs.length ∧ Hid (Wraps wr qs u (.iface 132 x)))
  case atStart => exact ⟨rfl, ps, rfl, HE⟩
  case round =>
    obtain ⟨rfl, qs, rfl, hq⟩ := hrel
    cases qs with
    | nil =>
      obtain rfl := hq.out
      go_wp2
      go_ret
      exact ⟨rfl, HF⟩
    | cons p qs =>
      obtain ⟨g, u, rfl, hg, hu⟩ := hq.out
      have HGr : Hid (W1.heap[g]? = some (Obj.cells #[.int .i64 p, u] 114 (0, 0))) := hg
      have HQ : Hid (Wraps W1 qs u (.iface 132 x)) := hu
      obtain ⟨T, y, rfl⟩ := hu.iface
      clear hg hu hq
      go_wp2_with (go_at_call 146; refine (unwrap_any g _ _ _ HGr.out).mono ?_; rintro e w' ⟨rfl, rfl⟩)
      go_roundg qs.length
      case rel => exact ⟨rfl, qs, rfl, HQ⟩
      case measure => simp

set_option maxRecDepth 100000 in
set_option maxHeartbeats 1000000 in
theorem as_errS (x : Value) (t a : Addr) (w : World) :
    Calls Tryd.prog 80 #[.iface 132 x, .iface 158 (.pointer (some t)), .agg #[.pointer (some ⟨4, 158, none⟩), .pointer (some a), .int .u64 150], .iface 162 (.agg #[.pointer (some ⟨4, 111, none⟩)])] w fun ev w' =>
      ev = .returned (.bool false) ∧ Fr (fun _ => False) w w' := by
  have h81 := @run_callFunc_extern Tryd.prog 81 _ ReflectliteType.typeOf Tryd.func81 (by kernel_rfl) (by kernel_rfl) (by kernel_rfl) (by kernel_rfl)
  have h152 := @run_callFunc_extern Tryd.prog 152 _ (ReflectliteType.relation "AssignableTo" ReflectliteType.assignableTo) Tryd.func152 (by kernel_rfl) (by kernel_rfl) (by kernel_rfl) (by kernel_rfl)
  have mA := Tryd.methodAssignableTo
  have tE := Tryd.typeOf132
  have aE := Tryd.assign132b
  have nB := Tryd.noAs132
  have n1 := Tryd.unwrap132
  have n2 := Tryd.unwraps132
  go_enter Tryd.func80, Tryd.ntmps80
  go_wp2
  refine wp_loop_rounds 1 ?_
  rw [rounds_succ]
  go_wp2
  go_ret
  exact ⟨rfl, (Fr.refl _ w).alloc _⟩

set_option maxRecDepth 100000 in
set_option maxHeartbeats 1000000 in
theorem noPlace_errS (x : Value) : NoPlace 132 x := by
  intro w hG
  have hmf : ∀ (fn : Fn) (first cap : Array Value) (w : World), (Instr.makeFunc fn first cap).run Tryd.prog w = .ok (.func fn first cap) w := fun _ _ _ _ => rfl
  have hF : Fr (fun _ => False) w (w.alloc (.cells #[.pointer none] 111)) := (Fr.refl _ w).alloc _
  have C := As_placed 132 x ⟨w.heap.size, 0, none⟩ (w.alloc (.cells #[.pointer none] 111)) false (fun w' => Fr (fun _ => False) (w.alloc (.cells #[.pointer none] 111)) w') (hG.keep hF (fun h => h)) (by simp)
    (fun a W f _ _ => (as_errS x _ a W).mono fun ev w' ⟨h1, h2⟩ => ⟨h1, f.trans h2⟩)
  clear hG
  go_enter_defers Tryd.func72, Tryd.ntmps72
  go_wp2_with fail
  refine C.mono ?_
  rintro ev w1 ⟨rfl, hw1⟩
  have hc1 : w1.cell? ⟨w.heap.size, 0, none⟩ = some (.pointer none) := hw1.cell (by simp) (fun h => h)
  have hz1 : w1.frozen? ⟨w.heap.size, 0, none⟩ = false := by
    rw [World.frozen?_of_block (w := w.alloc (.cells #[.pointer none] 111)) (hw1.block w.heap.size (by simp) (fun h => h))]; simp
  have HF : Hid (Fr (fun _ => False) w w1) := hF.trans hw1
  clear C hF hw1
  go_wp2
  refine leaves_cons (f := 103) (args := #[.pointer (some ⟨w.heap.size, 0, none⟩)]) (by simp) (by simp [go_sem]) ?_
  refine (catch_idle2 ⟨w.heap.size, 0, none⟩ _).mono ?_
  rintro e' u' w'' ⟨rfl, rfl, rfl⟩
  have hF2 : Fr (fun _ => False) w (w1.setCell ⟨w.heap.size, 0, none⟩ (.pointer none)) := HF.out.setCell _ (fun h => absurd h (Nat.lt_irrefl _)) _
  simp [Leaves, settle, results, Tryd.results72, go_sem, hc1]
  exact hF2

theorem errnew_any (s : ByteArray) (w : World) : Calls Tryd.prog 26 #[.string s] w fun e w' => e = .returned (.iface 132 (.pointer (some ⟨w.heap.size, 0, none⟩))) ∧ w' = w.alloc (.cells #[.string s] 134) := by
  go_enter Tryd.func26, Tryd.ntmps26
  go_wp2
  go_ret
  exact ⟨rfl, rfl⟩
theorem at_nil (a : Option Addr) (n c : Nat) (w : World) : Calls Tryd.prog 25 #[.nilIface, .slice a n c] w fun e w' => e = .returned .nilIface ∧ w = w' := by
  go_enter Tryd.func25, Tryd.ntmps25
  go_wp2
  go_ret
  exact ⟨rfl, rfl⟩
theorem As_nil (t : Value) (w : World) : Calls Tryd.prog 22 #[.nilIface, t] w fun e w' => e = .returned (.bool false) ∧ w' = w := by
  go_enter Tryd.func22, Tryd.ntmps22
  go_wp2
  go_ret
  exact ⟨rfl, rfl⟩
end Go.Proofs.YtcmmjkkpjclfgaaDoor
