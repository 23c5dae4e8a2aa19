import Derived.Test.YtcmmjkkpjclfgaaDoorRfl2
namespace Go.Proofs.YtcmmjkkpjclfgaaDoor
open Go.RowKit Go.Extern.Stop Go.Stop Go.Extern

section
variable {P : Program} (w : World)
theorem run_equalIn_errno (d : Nat) {ti tn : TypeId} {ms : Array (String × TypeId)} {i : TypeInfo} {k : IntKind} (a b : Int)
    (hi : P.underlying ti = some (.interface ms)) (hn : P.underlying tn = some (.int k)) (hinfo : P.info? tn = some i) (hcomp : i.comparable = true) :
    (Op.equalIn (d + 2) ti (.iface tn (.int k a)) (.iface tn (.int k b))).run P w = .ok (a == b) w := by
  simp [Op.equalIn, run_underlying hi, run_underlying hn, typeInfo, hinfo, hcomp]
theorem run_eql_errno {ti tn : TypeId} {ms : Array (String × TypeId)} {i : TypeInfo} {k : IntKind} (a b : Int)
    (hi : P.underlying ti = some (.interface ms)) (hn : P.underlying tn = some (.int k)) (hinfo : P.info? tn = some i) (hcomp : i.comparable = true) :
    (binOp .eql ti (.iface tn (.int k a)) (.iface tn (.int k b))).run P w = .ok (.bool (a == b)) w := by
  simp only [binOp]
  simp [Op.equal, Op.maxDepth, run_equalIn_errno w 9998 a b hi hn hinfo hcomp]
end
theorem Tryd.comp29 : (Tryd.prog.info? 29).map (·.comparable) = some true := by kernel_rfl
theorem Tryd.eql29 (a b : Int) (w : World) : (binOp .eql 24 (.iface 29 (.int .i64 a)) (.iface 29 (.int .i64 b))).run Tryd.prog w = .ok (.bool (a == b)) w := by
  obtain ⟨i, hi, hc⟩ := Option.map_eq_some_iff.1 Tryd.comp29
  exact run_eql_errno w a b Tryd.underlying24 Tryd.underlying29 hi hc
theorem Tryd.methodComparable (h : Value) (w : World) : (Go.method 321 162 (.agg #[h]) "Comparable").run Tryd.prog w = .ok (153, .agg #[h]) w := by kernel_rfl
theorem Tryd.noIs29 (v : Value) (xT : TypeId) (w : World) : (Instr.typeAssert (.iface 29 v) xT 173 true).run Tryd.prog w = .ok (.tuple #[.nilIface, .bool false]) w := run_typeAssert_lacksB Tryd.underlying173 (by kernel_rfl) (by kernel_rfl) v xT w
theorem Tryd.callComparable (w : World) : (callFunc 153 #[.agg #[.pointer (some ⟨4, 29, none⟩)]]).run Tryd.prog w = .ok (Next.value (.bool true)) w := by kernel_rfl

set_option maxRecDepth 100000 in
set_option maxHeartbeats 1000000 in
theorem is_low (a b : Int) (w : World) : Calls Tryd.prog 82 #[.iface 29 (.int .i64 a), .iface 29 (.int .i64 b), .bool true] w fun ev w' => ev = .returned (.bool (a == b)) ∧ w' = w := by
  have e29 := Tryd.eql29
  have nI := Tryd.noIs29
  have n1 := Tryd.unwrap29
  have n2 := Tryd.unwraps29
  cases hab : (a == b) with
  | true =>
    go_enter Tryd.func82, Tryd.ntmps82
    go_wp2
    refine wp_loop_rounds 1 ?_
    rw [rounds_succ]
    go_wp2
    go_ret
    exact ⟨rfl, rfl⟩
  | false =>
    go_enter Tryd.func82, Tryd.ntmps82
    go_wp2
    refine wp_loop_rounds 1 ?_
    rw [rounds_succ]
    go_wp2
    go_ret
    exact ⟨rfl, rfl⟩
set_option maxRecDepth 100000 in
set_option maxHeartbeats 1000000 in
theorem Is_errno (a b : Int) (w : World) : Calls Tryd.prog 24 #[.iface 29 (.int .i64 a), .iface 29 (.int .i64 b)] w fun ev w' => ev = .returned (.bool (a == b)) ∧ w' = w := by
  have h81 := @run_callFunc_extern Tryd.prog 81 _ ReflectliteType.typeOf Tryd.func81 (by kernel_rfl) (by kernel_rfl) (by kernel_rfl) (by kernel_rfl)
  have tE := Tryd.typeOf29
  have mC := Tryd.methodComparable
  have hC := Tryd.callComparable
  have C := is_low a b w
  go_enter Tryd.func24, Tryd.ntmps24
  go_wp2_with fail
  refine C.mono ?_
  rintro e w' ⟨rfl, rfl⟩
  clear C
  go_wp2
  go_ret
  exact ⟨rfl, rfl⟩

set_option maxRecDepth 100000 in
set_option maxHeartbeats 1000000 in
theorem fis_any (ps : List Int) (v : Value) (k t : Int) (w : World) (hG : Glob w) (h : ErrIs w ps v k) (ht : t ≠ 0) :
    Calls Tryd.prog 23 #[v, .int .i64 t] w fun e w' => e = .returned (.bool (k == t)) ∧ Fr (fun _ => False) w w' := by
  have C := kind_any ps v k w hG h
  have ht' : (t != 0) = true := by simp [ht]
  clear h hG ht
  go_enter Tryd.func23, Tryd.ntmps23
  go_wp2_with fail
  refine C.mono ?_
  rintro e w1 ⟨rfl, hf⟩
  have HF : Hid (Fr (fun _ => False) w w1) := hf
  clear C hf
  go_wp2_with fail
  refine (Is_errno k t w1).mono ?_
  rintro e w2 ⟨rfl, rfl⟩
  go_wp2
  go_ret
  exact ⟨rfl, HF⟩
end Go.Proofs.YtcmmjkkpjclfgaaDoor
