import Derived.Test.YtcmmjkkpjclfgaaDoorAs
import Derived.Defers
import Derived.Recover
namespace Go.Proofs.YtcmmjkkpjclfgaaDoor
open Go.RowKit Go.Extern.Stop Go.Stop Go.Extern

/-- package errors' errorType holds the handle of error -/
def Glob (w : World) : Prop := w.cell? ⟨0, 0, none⟩ = some (.iface 162 (.agg #[.pointer (some ⟨4, 24, none⟩)]))
theorem Glob.keep {S : Nat → Prop} {w w' : World} (h : Glob w) (f : Fr S w w') (h0 : ¬ S 0) : Glob w' := f.cell h h0
theorem Glob.lt {w : World} (h : Glob w) : 0 < w.heap.size := World.block_lt_of_cell? w _ h

set_option maxRecDepth 100000 in
set_option maxHeartbeats 1000000 in
theorem As_any (ps : List Int) (v : Value) (k : Int) (t : Addr) (old : Value) (w : World) (hG : Glob w) (h : ErrIs w ps v k) (ht : w.cell? t = some old) (hf : w.frozen? t = false) :
    Calls Tryd.prog 22 #[v, .iface 37 (.pointer (some t))] w fun e w' =>
      e = .returned (.bool true) ∧ ∃ w1, Fr (fun _ => False) w w1 ∧ w' = w1.setCell t (.int .i64 k) := by
  have h77 := @run_callFunc_extern Tryd.prog 77 _ (fun args => ReflectliteValue.unpack (args.getD 0 (.tuple #[]))) Tryd.func77 (by kernel_rfl) (by kernel_rfl) (by kernel_rfl) (by kernel_rfl)
  have h78 := @run_callFunc_extern Tryd.prog 78 _ (ReflectliteValue.methodAny (ReflectliteValue.valueError "reflectlite.Value.Type" 0) (fun t _ _ _ => ReflectliteType.toType t)) Tryd.func78 (by kernel_rfl) (by kernel_rfl) (by kernel_rfl) (by kernel_rfl)
  have h79 := @run_callFunc_extern Tryd.prog 79 _ (ReflectliteValue.method (ReflectliteValue.valueError "reflectlite.Value.IsNil" 0) ReflectliteValue.isNil) Tryd.func79 (by kernel_rfl) (by kernel_rfl) (by kernel_rfl) (by kernel_rfl)
  have h142 := @run_callFunc_extern Tryd.prog 142 _ (ReflectliteType.abiMethod fun t => do pure (.int .u8 (← Rtype.kind t))) Tryd.func142 (by kernel_rfl) (by kernel_rfl) (by kernel_rfl) (by kernel_rfl)
  have h154 := @run_callFunc_extern Tryd.prog 154 _ (ReflectliteType.method ReflectliteType.elem) Tryd.func154 (by kernel_rfl) (by kernel_rfl) (by kernel_rfl) (by kernel_rfl)
  have h155 := @run_callFunc_extern Tryd.prog 155 _ (ReflectliteType.relation "Implements" ReflectliteType.implements_) Tryd.func155 (by kernel_rfl) (by kernel_rfl) (by kernel_rfl) (by kernel_rfl)
  have f77 := Tryd.valueOf37
  have f78 := Tryd.type37
  have mK := Tryd.methodKind
  have mE := Tryd.methodElem
  have mI := Tryd.methodImplements
  have k37 := Tryd.kind37
  have k29 := Tryd.kind29
  have e37 := Tryd.elem37
  have i29 := Tryd.implements29
  have hlt := World.block_lt_of_cell? w t ht
  have hF : Fr (fun _ => False) w ((w.alloc (.cells #[.pointer (some t)] 37)).alloc (.cells #[.pointer (some ⟨4, 37, none⟩), .pointer (some ⟨w.heap.size, 0, none⟩), .int .u64 150] 121)) := ((Fr.refl _ w).alloc _).alloc _
  have n8 := Tryd.isNil37 ⟨w.heap.size, 0, none⟩ t ((w.alloc (.cells #[.pointer (some t)] 37)).alloc (.cells #[.pointer (some ⟨4, 37, none⟩), .pointer (some ⟨w.heap.size, 0, none⟩), .int .u64 150] 121)) (by simp)
  have hg2 : ((w.alloc (.cells #[.pointer (some t)] 37)).alloc (.cells #[.pointer (some ⟨4, 37, none⟩), .pointer (some ⟨w.heap.size, 0, none⟩), .int .u64 150] 121)).cell? ⟨0, 0, none⟩ = some (.iface 162 (.agg #[.pointer (some ⟨4, 24, none⟩)])) := hF.cell hG (fun h => h)
  obtain ⟨T, x, rfl⟩ := h.iface
  have C := as_any ps _ k t ⟨w.heap.size, 0, none⟩ old ((w.alloc (.cells #[.pointer (some t)] 37)).alloc (.cells #[.pointer (some ⟨4, 37, none⟩), .pointer (some ⟨w.heap.size, 0, none⟩), .int .u64 150] 121))
    (h.keep (fun g c hg => hF.block g (heap_lt hg) (fun h => h))) (by simp) (hF.cell ht (fun h => h)) (by rw [World.frozen?_alloc_old _ _ t (by simp; omega), World.frozen?_alloc_old _ _ t (Nat.ne_of_lt hlt)]; exact hf)
  have HC := C
  have HF : Hid (Fr (fun _ => False) w ((w.alloc (.cells #[.pointer (some t)] 37)).alloc (.cells #[.pointer (some ⟨4, 37, none⟩), .pointer (some ⟨w.heap.size, 0, none⟩), .int .u64 150] 121))) := hF
  clear hF C h ht hf
  go_enter Tryd.func22, Tryd.ntmps22
  go_wp2_with fail
  refine HC.mono ?_
  rintro e w' ⟨rfl, w1, hw1, rfl⟩
  clear HC n8 hg2
  go_wp2
  go_ret
  exact ⟨rfl, w1, HF.out.trans hw1, rfl⟩

theorem catch_idle (p : Addr) (w : World) :
    CallsD Tryd.prog 71 #[.pointer (some p)] .returning w fun e u' w' => e = .returned (.tuple #[]) ∧ u' = .returning ∧ w' = w := by
  refine callsD_of_wpS Tryd.func71 rfl fun c₀ cs hu => ?_
  apply wpS_seq
  apply wpS_region
  simp [wpOpsS, go_sem, recoverD, hu, Tryd.ntmps71, Exit.thenS]
  refine wpS_cond (t := false) (by simp [Act.eval, Array.replicate]) ?_
  simp only [Bool.false_eq_true, if_false]
  refine wpS_of_wp (wp_skip ?_)
  cases c₀
  simp_all [bodyPostS, results, Tryd.results71]

set_option maxRecDepth 100000 in
set_option maxHeartbeats 1000000 in
theorem kind_any (ps : List Int) (v : Value) (k : Int) (w : World) (hG : Glob w) (h : ErrIs w ps v k) :
    Calls Tryd.prog 17 #[v] w fun e w' => e = .returned (.int .i64 k) ∧ Fr (fun _ => False) w w' := by
  have hmf : ∀ (fn : Fn) (first cap : Array Value) (w : World), (Instr.makeFunc fn first cap).run Tryd.prog w = .ok (.func fn first cap) w := fun _ _ _ _ => rfl
  have hF : Fr (fun _ => False) w (w.alloc (.cells #[.int .i64 0] 29)) := (Fr.refl _ w).alloc _
  obtain ⟨T, x, rfl⟩ := h.iface
  have C := As_any ps _ k ⟨w.heap.size, 0, none⟩ (.int .i64 0) (w.alloc (.cells #[.int .i64 0] 29)) (hG.keep hF (fun h => h)) (h.keep (fun g c hg => hF.block g (heap_lt hg) (fun h => h))) (by simp) (by simp)
  clear h hG
  go_enter_defers Tryd.func17, Tryd.ntmps17
  go_wp2_with fail
  refine C.mono ?_
  rintro e w' ⟨rfl, w1, hw1, rfl⟩
  have hc1 : w1.cell? ⟨w.heap.size, 0, none⟩ = some (.int .i64 0) := hw1.cell (by simp) (fun h => h)
  have hz1 : w1.frozen? ⟨w.heap.size, 0, none⟩ = false := by
    rw [World.frozen?_of_block (w := w.alloc (.cells #[.int .i64 0] 29)) (hw1.block w.heap.size (by simp) (fun h => h))]; simp
  have HF : Hid (Fr (fun _ => False) w w1) := hF.trans hw1
  clear C hF hw1
  go_wp2
  refine leaves_cons (f := 71) (args := #[.pointer (some ⟨w.heap.size, 0, none⟩)]) (by simp) (by simp [go_sem]) ?_
  refine (catch_idle ⟨w.heap.size, 0, none⟩ _).mono ?_
  rintro e u' w'' ⟨rfl, rfl, rfl⟩
  have hF2 : Fr (fun _ => False) w ((w1.setCell ⟨w.heap.size, 0, none⟩ (.int .i64 k)).setCell ⟨w.heap.size, 0, none⟩ (.int .i64 k)) := (HF.out.setCell _ (fun h => absurd h (Nat.lt_irrefl _)) _).setCell _ (fun h => absurd h (Nat.lt_irrefl _)) _
  simp [Leaves, settle, results, Tryd.results17, go_sem, hc1]
  exact hF2
end Go.Proofs.YtcmmjkkpjclfgaaDoor
