import Derived.Test.YtcmmjkkpjclfgaaDoorNone
namespace Go.Proofs.YtcmmjkkpjclfgaaDoor
open Go.RowKit Go.Extern.Stop Go.Stop Go.Extern Go.Lib

set_option maxRecDepth 100000 in
set_option maxHeartbeats 1000000 in
theorem As_noneE (ps : List Int) (T : TypeId) (y x : Value) (t : Addr) (w : World) (hG : Glob w) (h : Wraps w ps (.iface T y) (.iface 132 x)) :
    Calls Tryd.prog 22 #[.iface T y, .iface 37 (.pointer (some t))] w fun e w' => e = .returned (.bool false) ∧ Fr (fun _ => False) w w' := by
  have h77 := @run_callFunc_extern Tryd.prog 77 _ (fun args => ReflectliteValue.unpack (args.getD 0 (.tuple #[]))) Tryd.func77 (by kernel_rfl) (by kernel_rfl) (by kernel_rfl) (by kernel_rfl)
  have h78 := @run_callFunc_extern Tryd.prog 78 _ (ReflectliteValue.methodAny (ReflectliteValue.valueError "reflectlite.Value.Type" 0) (fun t _ _ _ => ReflectliteType.toType t)) Tryd.func78 (by kernel_rfl) (by kernel_rfl) (by kernel_rfl) (by kernel_rfl)
  have h79 := @run_callFunc_extern Tryd.prog 79 _ (ReflectliteValue.method (ReflectliteValue.valueError "reflectlite.Value.IsNil" 0) ReflectliteValue.isNil) Tryd.func79 (by kernel_rfl) (by kernel_rfl) (by kernel_rfl) (by kernel_rfl)
  have h142 := @run_callFunc_extern Tryd.prog 142 _ (ReflectliteType.abiMethod fun t => do pure (.int .u8 (← Rtype.kind t))) Tryd.func142 (by kernel_rfl) (by kernel_rfl) (by kernel_rfl) (by kernel_rfl)
  have h154 := @run_callFunc_extern Tryd.prog 154 _ (ReflectliteType.method ReflectliteType.elem) Tryd.func154 (by kernel_rfl) (by kernel_rfl) (by kernel_rfl) (by kernel_rfl)
  have h155 := @run_callFunc_extern Tryd.prog 155 _ (ReflectliteType.relation "Implements" ReflectliteType.implements_) Tryd.func155 (by kernel_rfl) (by kernel_rfl) (by kernel_rfl) (by kernel_rfl)
  have f77 := Tryd.valueOf37
  have f78 := Tryd.type37
  have mK := Tryd.methodKind
  have mE := Tryd.methodElem
  have mI := Tryd.methodImplements
  have k37 := Tryd.kind37
  have k29 := Tryd.kind29
  have e37 := Tryd.elem37
  have i29 := Tryd.implements29
  have hF : Fr (fun _ => False) w ((w.alloc (.cells #[.pointer (some t)] 37)).alloc (.cells #[.pointer (some ⟨4, 37, none⟩), .pointer (some ⟨w.heap.size, 0, none⟩), .int .u64 150] 121)) := ((Fr.refl _ w).alloc _).alloc _
  have n8 := Tryd.isNil37 ⟨w.heap.size, 0, none⟩ t ((w.alloc (.cells #[.pointer (some t)] 37)).alloc (.cells #[.pointer (some ⟨4, 37, none⟩), .pointer (some ⟨w.heap.size, 0, none⟩), .int .u64 150] 121)) (by simp)
  have hg2 : ((w.alloc (.cells #[.pointer (some t)] 37)).alloc (.cells #[.pointer (some ⟨4, 37, none⟩), .pointer (some ⟨w.heap.size, 0, none⟩), .int .u64 150] 121)).cell? ⟨0, 0, none⟩ = some (.iface 162 (.agg #[.pointer (some ⟨4, 24, none⟩)])) := hF.cell hG (fun h => h)
  have C := as_none ps (.iface T y) x t ⟨w.heap.size, 0, none⟩ ((w.alloc (.cells #[.pointer (some t)] 37)).alloc (.cells #[.pointer (some ⟨4, 37, none⟩), .pointer (some ⟨w.heap.size, 0, none⟩), .int .u64 150] 121)) (h.fr hF)
  have HF : Hid (Fr (fun _ => False) w ((w.alloc (.cells #[.pointer (some t)] 37)).alloc (.cells #[.pointer (some ⟨4, 37, none⟩), .pointer (some ⟨w.heap.size, 0, none⟩), .int .u64 150] 121))) := hF
  clear hF h hG
  go_enter Tryd.func22, Tryd.ntmps22
  go_wp2_with fail
  refine C.mono ?_
  rintro e w' ⟨rfl, hw1⟩
  have H : Hid (Fr (fun _ => False) w w') := HF.out.trans hw1
  clear C n8 hg2 hw1 HF
  go_wp2
  go_ret
  exact ⟨rfl, H⟩

set_option maxRecDepth 100000 in
set_option maxHeartbeats 1000000 in
theorem kind_none (ps : List Int) (T : TypeId) (y x : Value) (w : World) (hG : Glob w) (h : Wraps w ps (.iface T y) (.iface 132 x)) :
    Calls Tryd.prog 17 #[.iface T y] w fun e w' => e = .returned (.int .i64 21) ∧ Fr (fun _ => False) w w' := by
  have hmf : ∀ (fn : Fn) (first cap : Array Value) (w : World), (Instr.makeFunc fn first cap).run Tryd.prog w = .ok (.func fn first cap) w := fun _ _ _ _ => rfl
  have hF : Fr (fun _ => False) w (w.alloc (.cells #[.int .i64 0] 29)) := (Fr.refl _ w).alloc _
  have C := As_noneE ps T y x ⟨w.heap.size, 0, none⟩ (w.alloc (.cells #[.int .i64 0] 29)) (hG.keep hF (fun h => h)) (h.fr hF)
  clear h hG
  go_enter_defers Tryd.func17, Tryd.ntmps17
  go_wp2_with fail
  refine C.mono ?_
  rintro e w1 ⟨rfl, hw1⟩
  have hc1 : w1.cell? ⟨w.heap.size, 0, none⟩ = some (.int .i64 0) := hw1.cell (by simp) (fun h => h)
  have hz1 : w1.frozen? ⟨w.heap.size, 0, none⟩ = false := by
    rw [World.frozen?_of_block (w := w.alloc (.cells #[.int .i64 0] 29)) (hw1.block w.heap.size (by simp) (fun h => h))]; simp
  have HF : Hid (Fr (fun _ => False) w w1) := hF.trans hw1
  clear C hF hw1
  go_wp2
  refine leaves_cons (f := 71) (args := #[.pointer (some ⟨w.heap.size, 0, none⟩)]) (by simp) (by simp [go_sem]) ?_
  refine (catch_idle ⟨w.heap.size, 0, none⟩ _).mono ?_
  rintro e u' w'' ⟨rfl, rfl, rfl⟩
  have hF2 : Fr (fun _ => False) w (w1.setCell ⟨w.heap.size, 0, none⟩ (.int .i64 21)) := HF.out.setCell _ (fun h => absurd h (Nat.lt_irrefl _)) _
  simp [Leaves, settle, results, Tryd.results17, go_sem, hc1]
  exact hF2

set_option maxRecDepth 100000 in
set_option maxHeartbeats 1000000 in
theorem kind_nil (w : World) : Calls Tryd.prog 17 #[.nilIface] w fun e w' => e = .returned (.int .i64 0) ∧ Fr (fun _ => False) w w' := by
  go_enter_defers Tryd.func17, Tryd.ntmps17
  go_wp2
  have hF2 : Fr (fun _ => False) w (w.alloc (.cells #[.int .i64 0] 29)) := (Fr.refl _ w).alloc _
  simp [bodyPostD, Leaves, results, Tryd.results17, go_sem]
  exact hF2

set_option maxRecDepth 100000 in
set_option maxHeartbeats 1000000 in
theorem outer_nil (w : World) : Calls Tryd.prog 72 #[.nilIface] w fun ev w' => ev = .returned (.pointer none) ∧ Fr (fun _ => False) w w' := by
  have hmf : ∀ (fn : Fn) (first cap : Array Value) (w : World), (Instr.makeFunc fn first cap).run Tryd.prog w = .ok (.func fn first cap) w := fun _ _ _ _ => rfl
  have hF : Fr (fun _ => False) w (w.alloc (.cells #[.pointer none] 111)) := (Fr.refl _ w).alloc _
  go_enter_defers Tryd.func72, Tryd.ntmps72
  go_wp2_with fail
  refine (As_nil _ _).mono ?_
  rintro ev w1 ⟨rfl, rfl⟩
  have HF : Hid (Fr (fun _ => False) w (w.alloc (.cells #[.pointer none] 111))) := hF
  clear hF
  go_wp2
  refine leaves_cons (f := 103) (args := #[.pointer (some ⟨w.heap.size, 0, none⟩)]) (by simp) (by simp [go_sem]) ?_
  refine (catch_idle2 ⟨w.heap.size, 0, none⟩ _).mono ?_
  rintro e' u' w'' ⟨rfl, rfl, rfl⟩
  simp [Leaves, settle, results, Tryd.results72, go_sem]
  exact HF.out

set_option maxRecDepth 100000 in
set_option maxHeartbeats 1000000 in
theorem path_nil (w : World) : Calls Tryd.prog 19 #[.nilIface] w fun e w' => e = .returned (.slice none 0 0) ∧ Fr (fun _ => False) w w' := by
  go_enter Tryd.func19, Tryd.ntmps19
  go_wp2_with fail
  refine (outer_nil w).mono ?_
  rintro e w1 ⟨rfl, hf⟩
  have HF : Hid (Fr (fun _ => False) w w1) := hf
  clear hf
  go_wp2_with fail
  refine wp_loop_rounds 1 ?_
  rw [rounds_succ]
  go_wp2
  go_ret
  exact ⟨rfl, HF⟩

def okS : ByteArray := ⟨#[111, 107]⟩
set_option maxRecDepth 100000 in
set_option maxHeartbeats 400000 in
theorem error_0 (w : World) : Calls Tryd.prog 74 #[.int .i64 0] w fun e w' => e = .returned (.string okS) ∧ w' = w := by
  go_enter Tryd.func74, Tryd.ntmps74
  go_wp2
  go_ret
  exact ⟨rfl, rfl⟩

set_option maxRecDepth 100000 in
set_option maxHeartbeats 1000000 in
theorem text_nil (w : World) : Calls Tryd.prog 20 #[.nilIface] w fun e w' => e = .returned (.string okS) ∧ Fr (fun _ => False) w w' := by
  obtain ⟨i0, hi, hz0, hz1, hz2⟩ := info_parts Tryd.info5
  go_enter Tryd.func20, Tryd.ntmps20
  go_wp2_with fail
  refine (path_nil w).mono ?_
  rintro e w1 ⟨rfl, hf⟩
  have HF : Hid (Fr (fun _ => False) w w1) := hf
  clear hf
  go_wp2_with fail
  refine wp_loop_rounds 1 ?_
  rw [rounds_succ]
  go_wp2_with fail
  refine (kind_nil w1).mono ?_
  rintro e w2 ⟨rfl, hf2⟩
  have HF2 : Hid (Fr (fun _ => False) w w2) := HF.out.trans hf2
  clear hf2 HF
  go_wp2_with fail
  refine (error_0 w2).mono ?_
  rintro e w3 ⟨rfl, hw3⟩
  obtain rfl := hw3.symm
  have HOK : Hid (okS.size = 2 ∧ strCells okS = B8 [111, 107]) := ⟨rfl, by simp [strCells, okS, B8]⟩
  have HO2 : Hid (okS = ⟨#[111, 107]⟩) := rfl
  obtain ⟨rs, hrs⟩ : ∃ rs, rs = okS := ⟨_, rfl⟩
  rw [← hrs] at HOK HO2 ⊢
  have HRS : Hid (rs = okS) := hrs
  clear hrs
  go_wp2_with (at_builtin; refine wpList_append_own_string _ rfl (.tmp 29) (.tmp 32) 55 9 rfl w.heap.size 5 i0 Tryd.underlying55 Tryd.underlying9 hi hz0 hz1 hz2 (.slice none 0 0) 0 [] rfl (World.ownsRow_nil _ _ _ _) rs rfl ?c6 ?c7 ?c8 ?_)
  case c6 => have := HOK.out.1; unfold maxLen; omega
  case c7 => have := HOK.out.1; omega
  case c8 => exact HF2.out.size
  intro v' w5 hown' hgrow hnil
  obtain ⟨a5, c5, rfl⟩ := ownsRow_slice hown'
  rw [HOK.out.1] at hown'
  rw [HOK.out.1]
  have H5 : Hid (Fr (fun _ => False) w w5) := HF2.out.grown hgrow (fun k hk _ => by cases hk)
  have hst : (convert 55 9 (.slice a5 2 c5)).run Tryd.prog w5 = .ok (.string rs) w5 := by
    rw [HOK.out.2] at hown'
    have ho' : w5.ownsRow 0 5 1 (.slice a5 2 c5) 2 (B8 [111, 107]) := ⟨hown'.1, by
      rcases hown'.2 with h | ⟨g, cap, cur, h1, _, h2⟩
      · exact .inl h
      · exact .inr ⟨g, cap, cur, h1, Nat.zero_le _, h2⟩⟩
    have hb := own_bs ho'
    rw [HO2.out]
    refine conv_str [111, 107] a5 c5 w5 ?_ ?_
    · rcases hb with ⟨h1, h2⟩ | h1
      · cases h2
      · exact .inr h1
    · intro e
      subst e
      rcases ho'.2 with ⟨h1, h2⟩ | ⟨g, cap, cur, h1, _⟩
      · omega
      · cases h1
  clear hown' hgrow hnil hi HF2
  go_wp2
  go_ret
  exact ⟨congrArg (fun s => Ending.returned (Value.string s)) HRS.out, H5⟩

set_option maxRecDepth 100000 in
theorem fis_nil0 (w : World) : Calls Tryd.prog 23 #[.nilIface, .int .i64 0] w fun e w' => e = .returned (.bool false) ∧ w = w' := by
  go_enter Tryd.func23, Tryd.ntmps23
  go_wp2
  go_ret
  exact ⟨rfl, rfl⟩
set_option maxRecDepth 100000 in
theorem fis_nil1 (w : World) : Calls Tryd.prog 23 #[.nilIface, .int .i64 1] w fun e w' => e = .returned (.bool false) ∧ Fr (fun _ => False) w w' := by
  go_enter Tryd.func23, Tryd.ntmps23
  go_wp2_with fail
  refine (kind_nil w).mono ?_
  rintro e w1 ⟨rfl, hf⟩
  have HF : Hid (Fr (fun _ => False) w w1) := hf
  clear hf
  go_wp2_with fail
  refine (Is_errno 0 1 w1).mono ?_
  rintro e w2 ⟨rfl, rfl⟩
  go_wp2
  go_ret
  exact ⟨rfl, HF⟩
end Go.Proofs.YtcmmjkkpjclfgaaDoor
