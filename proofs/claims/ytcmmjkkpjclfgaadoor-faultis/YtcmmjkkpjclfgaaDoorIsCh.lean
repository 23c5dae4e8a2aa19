import Derived.Test.YtcmmjkkpjclfgaaDoorTells
import Derived.Test.YtcmmjkkpjclfgaaDoorErrIs
namespace Go.Proofs.YtcmmjkkpjclfgaaDoor
open Go.RowKit Go.Extern.Stop Go.Stop Go.Extern

theorem Tryd.eqlmix (p : Value) (b : Int) (w : World) : (binOp .eql 24 (.iface 111 p) (.iface 29 (.int .i64 b))).run Tryd.prog w = .ok (.bool false) w :=
  run_eql_iface_types 111 29 p (.int .i64 b) Tryd.underlying24 (by decide) w
theorem Tryd.noIs111 (v : Value) (xT : TypeId) (w : World) : (Instr.typeAssert (.iface 111 v) xT 173 true).run Tryd.prog w = .ok (.tuple #[.nilIface, .bool false]) w := run_typeAssert_lacksB Tryd.underlying173 (by kernel_rfl) (by kernel_rfl) v xT w

set_option maxRecDepth 100000 in
set_option maxHeartbeats 1000000 in
theorem is_chain (ps : List Int) (v : Value) (a b : Int) (w : World) (h : ErrIs w ps v a) :
    Calls Tryd.prog 82 #[v, .iface 29 (.int .i64 b), .bool true] w fun ev w' => ev = .returned (.bool (a == b)) ∧ w' = w := by
  have e29 := Tryd.eql29
  have eM := Tryd.eqlmix
  have nI := Tryd.noIs29
  have nP := Tryd.noIs111
  have n1 := Tryd.unwrap29
  have n2 := Tryd.unwraps29
  have mU := Tryd.methodUnwrap
  have uW := Tryd.unwrap111
  have HE : Hid (ErrIs w ps v a) := h
  clear h
  cases hab : (a == b) with
  | true =>
    go_enter Tryd.func82, Tryd.ntmps82
    go_wp2
    go_loopg [0] ps.length (fun n u wr => w = wr ∧ ∃ qs : List Int, n = qs.length ∧ Hid (ErrIs wr qs u a))
    case atStart => exact ⟨rfl, ps, rfl, HE⟩
    case round =>
      obtain ⟨rfl, qs, rfl, hq⟩ := hrel
      cases qs with
      | nil =>
        obtain rfl := hq.out
        go_wp2
        go_ret
        exact ⟨rfl, rfl⟩
      | cons p qs =>
        obtain ⟨g, u, rfl, hg, hu⟩ := hq.out
        have HGr : Hid (w.heap[g]? = some (Obj.cells #[.int .i64 p, u] 114 (0, 0))) := hg
        have HQ : Hid (ErrIs w qs u a) := hu
        obtain ⟨T, y, rfl⟩ := hu.iface
        clear hg hu hq
        go_wp2_with (go_at_call 146; refine (unwrap_any g _ _ _ HGr.out).mono ?_; rintro e w' ⟨rfl, rfl⟩)
        go_roundg qs.length
        case rel => exact ⟨rfl, qs, rfl, HQ⟩
        case measure => simp
  | false =>
    go_enter Tryd.func82, Tryd.ntmps82
    go_wp2
    go_loopg [0] ps.length (fun n u wr => w = wr ∧ ∃ qs : List Int, n = qs.length ∧ Hid (ErrIs wr qs u a))
    case atStart => exact ⟨rfl, ps, rfl, HE⟩
    case round =>
      obtain ⟨rfl, qs, rfl, hq⟩ := hrel
      cases qs with
      | nil =>
        obtain rfl := hq.out
        go_wp2
        go_ret
        exact ⟨rfl, rfl⟩
      | cons p qs =>
        obtain ⟨g, u, rfl, hg, hu⟩ := hq.out
        have HGr : Hid (w.heap[g]? = some (Obj.cells #[.int .i64 p, u] 114 (0, 0))) := hg
        have HQ : Hid (ErrIs w qs u a) := hu
        obtain ⟨T, y, rfl⟩ := hu.iface
        clear hg hu hq
        go_wp2_with (go_at_call 146; refine (unwrap_any g _ _ _ HGr.out).mono ?_; rintro e w' ⟨rfl, rfl⟩)
        go_roundg qs.length
        case rel => exact ⟨rfl, qs, rfl, HQ⟩
        case measure => simp

set_option maxRecDepth 100000 in
set_option maxHeartbeats 1000000 in
theorem Is_chain (ps : List Int) (v : Value) (a b : Int) (w : World) (h : ErrIs w ps v a) :
    Calls Tryd.prog 24 #[v, .iface 29 (.int .i64 b)] w fun ev w' => ev = .returned (.bool (a == b)) ∧ w = w' := by
  have h81 := @run_callFunc_extern Tryd.prog 81 _ ReflectliteType.typeOf Tryd.func81 (by kernel_rfl) (by kernel_rfl) (by kernel_rfl) (by kernel_rfl)
  have tE := Tryd.typeOf29
  have mC := Tryd.methodComparable
  have hC := Tryd.callComparable
  have C := is_chain ps v a b w h
  obtain ⟨T, y, rfl⟩ := h.iface
  clear h
  go_enter Tryd.func24, Tryd.ntmps24
  go_wp2_with fail
  refine C.mono ?_
  rintro e w' ⟨rfl, hw⟩
  obtain rfl := hw.symm
  clear C
  go_wp2
  go_ret
  exact ⟨rfl, rfl⟩
end Go.Proofs.YtcmmjkkpjclfgaaDoor
