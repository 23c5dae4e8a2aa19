import Derived.Test.YtcmmjkkpjclfgaaDoorRfl2
namespace Go.Proofs.YtcmmjkkpjclfgaaDoor
open Go.RowKit Go.Extern.Stop Go.Stop Go.Extern


set_option maxRecDepth 100000 in
set_option maxHeartbeats 1000000 in
theorem as_placed (e t a : Addr) (old : Value) (w : World) (ha : w.cell? a = some (.pointer (some t))) (ht : w.cell? t = some old) (hf : w.frozen? t = false) :
    Calls Tryd.prog 80 #[.iface 111 (.pointer (some e)), .iface 158 (.pointer (some t)), .agg #[.pointer (some ⟨4, 158, none⟩), .pointer (some a), .int .u64 150], .iface 162 (.agg #[.pointer (some ⟨4, 111, none⟩)])] w fun ev w' =>
      ev = .returned (.bool true) ∧ ∃ w1, Fr (fun _ => False) w w1 ∧ w' = w1.setCell t (.pointer (some e)) := by
  have h81 := @run_callFunc_extern Tryd.prog 81 _ ReflectliteType.typeOf Tryd.func81 (by kernel_rfl) (by kernel_rfl) (by kernel_rfl) (by kernel_rfl)
  have h152 := @run_callFunc_extern Tryd.prog 152 _ (ReflectliteType.relation "AssignableTo" ReflectliteType.assignableTo) Tryd.func152 (by kernel_rfl) (by kernel_rfl) (by kernel_rfl) (by kernel_rfl)
  have h106 := @run_callFunc_extern Tryd.prog 106 _ (ReflectliteValue.method (ReflectliteValue.valueError "reflectlite.Value.Elem" 0) ReflectliteValue.elem) Tryd.func106 (by kernel_rfl) (by kernel_rfl) (by kernel_rfl) (by kernel_rfl)
  have h107 := @run_callFunc_extern Tryd.prog 107 _ ReflectliteValue.set Tryd.func107 (by kernel_rfl) (by kernel_rfl) (by kernel_rfl) (by kernel_rfl)
  have h77 := @run_callFunc_extern Tryd.prog 77 _ (fun args => ReflectliteValue.unpack (args.getD 0 (.tuple #[]))) Tryd.func77 (by kernel_rfl) (by kernel_rfl) (by kernel_rfl) (by kernel_rfl)
  have mA := Tryd.methodAssignableTo
  have tP := Tryd.typeOf111
  have aP := Tryd.assign111
  have vP := Tryd.valueOf111
  generalize hW : w.alloc (.cells #[.pointer (some ⟨4, 158, none⟩), .pointer (some a), .int .u64 150] 121) = W1
  have hlt := World.block_lt_of_cell? w t ht
  have hF : Fr (fun _ => False) w W1 := by rw [← hW]; exact (Fr.refl _ w).alloc _
  have ha1 : W1.cell? a = some (.pointer (some t)) := hF.cell ha (fun h => h)
  have ht1 : W1.cell? t = some old := hF.cell ht (fun h => h)
  have hf1 : W1.frozen? t = false := by rw [← hW, World.frozen?_alloc_old _ _ t (Nat.ne_of_lt hlt)]; exact hf
  have hlt1 := World.block_lt_of_cell? W1 t ht1
  have b0 : W1.cell? ⟨w.heap.size, 0, none⟩ = some (.pointer (some ⟨4, 158, none⟩)) := by rw [← hW]; simp
  have b1 : W1.cell? ⟨w.heap.size, 1, none⟩ = some (.pointer (some a)) := by rw [← hW]; simp
  have b2 : W1.cell? ⟨w.heap.size, 2, none⟩ = some (.int .u64 150) := by rw [← hW]; simp
  have el := Tryd.elemV158 a t W1 ha1
  have st := Tryd.set111 t ⟨W1.heap.size, 0, none⟩ e old (W1.alloc (.cells #[.pointer (some e)] 111)) (by rw [World.cell?_alloc_at _ _ _ _ (by simp)]; rfl) (by rw [World.cell?_alloc_lt _ _ t hlt1]; exact ht1) (by rw [World.frozen?_alloc_old _ _ t (Nat.ne_of_lt hlt1)]; exact hf1)
  clear ha ht hf hlt
  go_enter Tryd.func80, Tryd.ntmps80
  go_wp2
  clear hW
  refine wp_loop_rounds 1 ?_
  rw [rounds_succ]
  go_wp2
  go_ret
  exact ⟨rfl, _, hF.alloc _, rfl⟩


set_option maxRecDepth 100000 in
set_option maxHeartbeats 1000000 in
theorem as_errno (k : Int) (t a : Addr) (w : World) :
    Calls Tryd.prog 80 #[.iface 29 (.int .i64 k), .iface 158 (.pointer (some t)), .agg #[.pointer (some ⟨4, 158, none⟩), .pointer (some a), .int .u64 150], .iface 162 (.agg #[.pointer (some ⟨4, 111, none⟩)])] w fun ev w' =>
      ev = .returned (.bool false) ∧ Fr (fun _ => False) w w' := by
  have h81 := @run_callFunc_extern Tryd.prog 81 _ ReflectliteType.typeOf Tryd.func81 (by kernel_rfl) (by kernel_rfl) (by kernel_rfl) (by kernel_rfl)
  have h152 := @run_callFunc_extern Tryd.prog 152 _ (ReflectliteType.relation "AssignableTo" ReflectliteType.assignableTo) Tryd.func152 (by kernel_rfl) (by kernel_rfl) (by kernel_rfl) (by kernel_rfl)
  have mA := Tryd.methodAssignableTo
  have tE := Tryd.typeOf29
  have aE := Tryd.assign29
  have nA := Tryd.noAs29
  have n1 := Tryd.unwrap29
  have n2 := Tryd.unwraps29
  go_enter Tryd.func80, Tryd.ntmps80
  go_wp2
  refine wp_loop_rounds 1 ?_
  rw [rounds_succ]
  go_wp2
  go_ret
  exact ⟨rfl, (Fr.refl _ w).alloc _⟩


set_option maxRecDepth 100000 in
set_option maxHeartbeats 1000000 in
theorem As_placed (T : TypeId) (x : Value) (t : Addr) (w : World) (b : Bool) (R : World → Prop) (hG : Glob w) (hlt : t.block < w.heap.size)
    (C : ∀ (a : Addr) (W : World), Fr (fun _ => False) w W → W.cell? a = some (.pointer (some t)) → W.frozen? t = w.frozen? t → Calls Tryd.prog 80 #[.iface T x, .iface 158 (.pointer (some t)), .agg #[.pointer (some ⟨4, 158, none⟩), .pointer (some a), .int .u64 150], .iface 162 (.agg #[.pointer (some ⟨4, 111, none⟩)])] W fun ev w' => ev = .returned (.bool b) ∧ R w') :
    Calls Tryd.prog 22 #[.iface T x, .iface 158 (.pointer (some t))] w fun ev w' => ev = .returned (.bool b) ∧ R w' := by
  have h77 := @run_callFunc_extern Tryd.prog 77 _ (fun args => ReflectliteValue.unpack (args.getD 0 (.tuple #[]))) Tryd.func77 (by kernel_rfl) (by kernel_rfl) (by kernel_rfl) (by kernel_rfl)
  have h78 := @run_callFunc_extern Tryd.prog 78 _ (ReflectliteValue.methodAny (ReflectliteValue.valueError "reflectlite.Value.Type" 0) (fun t _ _ _ => ReflectliteType.toType t)) Tryd.func78 (by kernel_rfl) (by kernel_rfl) (by kernel_rfl) (by kernel_rfl)
  have h79 := @run_callFunc_extern Tryd.prog 79 _ (ReflectliteValue.method (ReflectliteValue.valueError "reflectlite.Value.IsNil" 0) ReflectliteValue.isNil) Tryd.func79 (by kernel_rfl) (by kernel_rfl) (by kernel_rfl) (by kernel_rfl)
  have h142 := @run_callFunc_extern Tryd.prog 142 _ (ReflectliteType.abiMethod fun t => do pure (.int .u8 (← Rtype.kind t))) Tryd.func142 (by kernel_rfl) (by kernel_rfl) (by kernel_rfl) (by kernel_rfl)
  have h154 := @run_callFunc_extern Tryd.prog 154 _ (ReflectliteType.method ReflectliteType.elem) Tryd.func154 (by kernel_rfl) (by kernel_rfl) (by kernel_rfl) (by kernel_rfl)
  have h155 := @run_callFunc_extern Tryd.prog 155 _ (ReflectliteType.relation "Implements" ReflectliteType.implements_) Tryd.func155 (by kernel_rfl) (by kernel_rfl) (by kernel_rfl) (by kernel_rfl)
  have f77 := Tryd.valueOf158
  have f78 := Tryd.type158
  have mK := Tryd.methodKind
  have mE := Tryd.methodElem
  have mI := Tryd.methodImplements
  have k158 := Tryd.kind158
  have k111 := Tryd.kind111
  have e158 := Tryd.elem158
  have i111 := Tryd.implements111
  have hF : Fr (fun _ => False) w ((w.alloc (.cells #[.pointer (some t)] 158)).alloc (.cells #[.pointer (some ⟨4, 158, none⟩), .pointer (some ⟨w.heap.size, 0, none⟩), .int .u64 150] 121)) := ((Fr.refl _ w).alloc _).alloc _
  have n8 := Tryd.isNil158 ⟨w.heap.size, 0, none⟩ t ((w.alloc (.cells #[.pointer (some t)] 158)).alloc (.cells #[.pointer (some ⟨4, 158, none⟩), .pointer (some ⟨w.heap.size, 0, none⟩), .int .u64 150] 121)) (by simp)
  have hg2 : ((w.alloc (.cells #[.pointer (some t)] 158)).alloc (.cells #[.pointer (some ⟨4, 158, none⟩), .pointer (some ⟨w.heap.size, 0, none⟩), .int .u64 150] 121)).cell? ⟨0, 0, none⟩ = some (.iface 162 (.agg #[.pointer (some ⟨4, 24, none⟩)])) := hF.cell hG (fun h => h)
  have D := C ⟨w.heap.size, 0, none⟩ _ hF (by simp) (by rw [World.frozen?_alloc_old _ _ t (by simp; omega), World.frozen?_alloc_old _ _ t (Nat.ne_of_lt hlt)])
  clear hF C hG
  go_enter Tryd.func22, Tryd.ntmps22
  go_wp2_with fail
  refine D.mono ?_
  rintro e w' ⟨rfl, hR⟩
  have HR : Hid (R w') := hR
  clear D n8 hg2 hR
  go_wp2
  go_ret
  exact ⟨rfl, HR⟩
end Go.Proofs.YtcmmjkkpjclfgaaDoor
