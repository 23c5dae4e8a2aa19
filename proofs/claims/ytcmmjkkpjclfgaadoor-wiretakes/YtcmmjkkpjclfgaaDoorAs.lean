import Derived.Test.YtcmmjkkpjclfgaaDoorRfl
import Derived.Deep.LoopGhost
namespace Go.Proofs.YtcmmjkkpjclfgaaDoor
open Go.RowKit Go.Extern.Stop Go.Stop Go.Extern

/-- the error value v is the number k, wrapped with the places ps -/
def ErrIs (w : World) : List Int → Value → Int → Prop
  | [], v, k => v = .iface 29 (.int .i64 k)
  | p :: ps, v, k => ∃ g u, v = .iface 111 (.pointer (some ⟨g, 0, none⟩)) ∧ w.heap[g]? = some (.cells #[.int .i64 p, u] 114 (0, 0)) ∧ ErrIs w ps u k
theorem ErrIs.keep {w w' : World} (h : ∀ (g : Nat) (c : Array Value), w.heap[g]? = some (Obj.cells c 114 (0, 0)) → w'.heap[g]? = w.heap[g]?) : ∀ {ps : List Int} {v : Value} {k : Int}, ErrIs w ps v k → ErrIs w' ps v k
  | [], _, _, e => e
  | _ :: _, _, _, ⟨g, u, e1, e2, e3⟩ => ⟨g, u, e1, (h g _ e2).trans e2, ErrIs.keep h e3⟩

theorem ErrIs.iface {w : World} : ∀ {ps : List Int} {v : Value} {k : Int}, ErrIs w ps v k → ∃ T x, v = .iface T x
  | [], _, _, e => ⟨_, _, e⟩
  | _ :: _, _, _, ⟨_, _, e, _⟩ => ⟨_, _, e⟩

theorem unwrap_any (g : Nat) (p u : Value) (w : World) (h : w.heap[g]? = some (.cells #[p, u] 114 (0, 0))) :
    Calls Tryd.prog 146 #[.pointer (some ⟨g, 0, none⟩)] w fun e w' => e = .returned u ∧ w' = w := by
  have hc : w.cell? ⟨g, 1, none⟩ = some u := by simp [World.cell?, h]
  clear h
  go_enter Tryd.func146, Tryd.ntmps146
  go_wp2
  go_ret
  exact ⟨rfl, rfl⟩

set_option maxRecDepth 100000 in
set_option maxHeartbeats 1000000 in
theorem as_any (ps : List Int) (v : Value) (k : Int) (t a : Addr) (old : Value) (w : World) (h : ErrIs w ps v k) (ha : w.cell? a = some (.pointer (some t))) (ht : w.cell? t = some old) (hf : w.frozen? t = false) :
    Calls Tryd.prog 80 #[v, .iface 37 (.pointer (some t)), .agg #[.pointer (some ⟨4, 37, none⟩), .pointer (some a), .int .u64 150], .iface 162 (.agg #[.pointer (some ⟨4, 29, none⟩)])] w fun e w' =>
      e = .returned (.bool true) ∧ ∃ w1, Fr (fun _ => False) w w1 ∧ w' = w1.setCell t (.int .i64 k) := by
  have h81 := @run_callFunc_extern Tryd.prog 81 _ ReflectliteType.typeOf Tryd.func81 (by kernel_rfl) (by kernel_rfl) (by kernel_rfl) (by kernel_rfl)
  have h152 := @run_callFunc_extern Tryd.prog 152 _ (ReflectliteType.relation "AssignableTo" ReflectliteType.assignableTo) Tryd.func152 (by kernel_rfl) (by kernel_rfl) (by kernel_rfl) (by kernel_rfl)
  have h106 := @run_callFunc_extern Tryd.prog 106 _ (ReflectliteValue.method (ReflectliteValue.valueError "reflectlite.Value.Elem" 0) ReflectliteValue.elem) Tryd.func106 (by kernel_rfl) (by kernel_rfl) (by kernel_rfl) (by kernel_rfl)
  have h107 := @run_callFunc_extern Tryd.prog 107 _ ReflectliteValue.set Tryd.func107 (by kernel_rfl) (by kernel_rfl) (by kernel_rfl) (by kernel_rfl)
  have h77 := @run_callFunc_extern Tryd.prog 77 _ (fun args => ReflectliteValue.unpack (args.getD 0 (.tuple #[]))) Tryd.func77 (by kernel_rfl) (by kernel_rfl) (by kernel_rfl) (by kernel_rfl)
  have mA := Tryd.methodAssignableTo
  have mU := Tryd.methodUnwrap
  have tP := Tryd.typeOf111
  have tE := Tryd.typeOf29
  have aP := Tryd.assignable111
  have aE := Tryd.assignable29
  have nA := Tryd.noAs111
  have uW := Tryd.unwrap111
  have vE := Tryd.valueOf29
  generalize hW : w.alloc (.cells #[.pointer (some ⟨4, 37, none⟩), .pointer (some a), .int .u64 150] 121) = W1
  have hlt := World.block_lt_of_cell? w t ht
  have hla := World.block_lt_of_cell? w a ha
  have hE : ErrIs W1 ps v k := h.keep (fun g c hg => by rw [← hW]; exact Below.heap_alloc w _ g (heap_lt hg))
  have hF : Fr (fun _ => False) w W1 := by rw [← hW]; exact (Fr.refl _ w).alloc _
  have ha1 : W1.cell? a = some (.pointer (some t)) := hF.cell ha (fun h => h)
  have ht1 : W1.cell? t = some old := hF.cell ht (fun h => h)
  have hf1 : W1.frozen? t = false := by rw [← hW, World.frozen?_alloc_old _ _ t (Nat.ne_of_lt hlt)]; exact hf
  have hlt1 := World.block_lt_of_cell? W1 t ht1
  have b0 : W1.cell? ⟨w.heap.size, 0, none⟩ = some (.pointer (some ⟨4, 37, none⟩)) := by rw [← hW]; simp
  have b1 : W1.cell? ⟨w.heap.size, 1, none⟩ = some (.pointer (some a)) := by rw [← hW]; simp
  have b2 : W1.cell? ⟨w.heap.size, 2, none⟩ = some (.int .u64 150) := by rw [← hW]; simp
  have el := Tryd.elemV37 a t W1 ha1
  have st := Tryd.set29 t ⟨W1.heap.size, 0, none⟩ k old (W1.alloc (.cells #[.int .i64 k] 29)) (by rw [World.cell?_alloc_at _ _ _ _ (by simp)]; rfl) (by rw [World.cell?_alloc_lt _ _ t hlt1]; exact ht1) (by rw [World.frozen?_alloc_old _ _ t (Nat.ne_of_lt hlt1)]; exact hf1)
  have HW : Hid (w.alloc (.cells #[.pointer (some ⟨4, 37, none⟩), .pointer (some a), .int .u64 150] 121) = W1) := hW
  have HE : Hid (ErrIs W1 ps v k) := hE
  clear h ha ht hf hE hlt hla
  go_enter Tryd.func80, Tryd.ntmps80
  go_wp2
  clear hW
  clear HW
  go_loopg [0] ps.length (fun n u wr => W1 = wr ∧ ∃ qs : List Int, n = qs.length ∧ Hid (ErrIs wr qs u k))
  case atStart => exact ⟨rfl, ps, rfl, HE⟩
  case round =>
    obtain ⟨rfl, qs, rfl, hq⟩ := hrel
    cases qs with
    | nil =>
      obtain rfl := hq.out
      go_wp2
      go_ret
      exact ⟨rfl, _, hF.alloc _, rfl⟩
    | cons p qs =>
      obtain ⟨g, u, rfl, hg, hu⟩ := hq.out
      have HG : Hid (W1.heap[g]? = some (.cells #[.int .i64 p, u] 114 (0, 0))) := hg
      have HQ : Hid (ErrIs W1 qs u k) := hu
      obtain ⟨T, x, rfl⟩ := hu.iface
      clear hg hu hq
      go_wp2_with (go_at_call 146; refine (unwrap_any g _ _ _ HG.out).mono ?_; rintro e w' ⟨rfl, rfl⟩)
      go_roundg qs.length
      case rel => exact ⟨rfl, qs, rfl, HQ⟩
      case measure => simp
end Go.Proofs.YtcmmjkkpjclfgaaDoor
