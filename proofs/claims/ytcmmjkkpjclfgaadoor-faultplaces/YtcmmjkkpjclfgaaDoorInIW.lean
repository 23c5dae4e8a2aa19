import Derived.Test.YtcmmjkkpjclfgaaDoorInII
import Derived.Test.YtcmmjkkpjclfgaaDoorTextG
import Derived.Lib.LaidTab
import Derived.Stop.LaidErr
namespace Go.Proofs.YtcmmjkkpjclfgaaDoor
open Go.ChangeShapes Go.WideShapes Go.ChangeAt Go.RowKit Go.Lib

theorem in64_of_wf {n : Int} (h : (Lit.int .i64 n).wf = true) : In64 n := by
  simp only [Lit.wf, Bool.and_eq_true, decide_eq_true_eq] at h
  exact ⟨h.1, h.2⟩
/-- what a walk is told of a [][]int that came in, and that each of its numbers is one -/
theorem open_rows64w {H : Type} {enc : TypeId × Value → H} {W : World} {b0 : Nat} {bl : Bool} {a : Option Addr} {len cap : Nat} {ts : List TypeId} {ds : List (DataW H)} {j : Nat} {d0 : DataW H} {p0 : List MemPlace}
    (h0 : ∃ fuel, DataW.trod enc Tryd.prog W b0 (fun _ => true) bl fuel 22 (Value.slice a len cap).cells.toList = some (d0, p0))
    (hsz : (DataW.weightsEach Tryd.prog ts ds).all (· ≤ reachBytes) = true) (ht : ts[j]? = some 22) (hd : ds[j]? = some d0) : ∃ rs, InII W a len rs ∧ ∀ r ∈ rs, ∀ n ∈ r.zs, In64 n := by
  obtain ⟨fuel, hf⟩ := h0
  rcases Go.Deep.open_int_rows Tryd.underlying22 Tryd.underlying25 Tryd.underlying3 Tryd.cells25 Tryd.cells3 hf with ⟨hcs, _⟩ | ⟨x, l, c, A, L, C, Z, hcs, _, hl, _, hx, hall⟩
  · simp [Value.cells] at hcs
    obtain ⟨rfl, rfl, rfl⟩ := hcs
    exact ⟨[], ⟨.inl ⟨rfl, rfl⟩, rfl, by simp, by simp⟩, by simp⟩
  · simp [Value.cells] at hcs
    obtain ⟨rfl, rfl, rfl⟩ := hcs
    simp only [Prod.mk.injEq] at hx
    obtain ⟨rfl, _⟩ := hx
    have hs := sized_slice hsz ht hd Tryd.underlying22
    rw [Tryd.bytes25] at hs
    simp only [List.length_map, List.length_range, reachBytes] at hs
    refine ⟨(List.range len).map fun r => ⟨A r, L r, C r, Z r⟩, ⟨.inr ⟨x, rfl, fun j u hj => ?_⟩, by simp, ?_, by simp; omega⟩, ?_⟩
    · simp only [List.map_map, List.getElem?_map, Option.map_eq_some_iff] at hj
      obtain ⟨n, hn, rfl⟩ := hj
      obtain ⟨hlt, hn'⟩ := List.getElem?_eq_some_iff.1 hn
      simp at hlt hn'
      subst hn'
      exact (hall j (by omega)).1
    · intro r hr
      simp only [List.mem_map, List.mem_range] at hr
      obtain ⟨n, hn, rfl⟩ := hr
      obtain ⟨_, h2, h3, h4, h5, h6, h7⟩ := hall n (by omega)
      have hb : C n * 8 ≤ 140737488351232 := by
        cases hA : A n with
        | none => rw [h6 hA]; omega
        | some y =>
          have hm : (C n * 8) ∈ (Go.Deep.intRow (H := H) .i64 (A n) (L n) (Z n)).weights Tryd.prog 25 := by
            rw [hA]
            simp only [Go.Deep.intRow, DataW.weights, Tryd.underlying25, Tryd.bytes3]
            refine List.mem_cons.2 (.inl ?_)
            simp [lits, h4]
            omega
          have := List.all_eq_true.1 hsz _ (DataW.weights_mem_each ht hd (C n * 8) (by
            simp only [DataW.weights, Tryd.underlying22]
            exact List.mem_cons_of_mem _ (List.mem_append_left _ (mem_weightsAll (List.mem_map.2 ⟨n, List.mem_range.2 hn, rfl⟩) _ hm))))
          exact of_decide_eq_true this
      refine ⟨?_, h4, h2, h6, hb⟩
      cases hA : A n with
      | none => exact .inl ⟨rfl, by have := h6 hA; rw [this] at h4; simp [I64, List.eq_nil_of_length_eq_zero h4]⟩
      | some y =>
        refine .inr ⟨y, rfl, fun j u hj => ?_⟩
        simp only [I64, List.getElem?_map, Option.map_eq_some_iff] at hj
        obtain ⟨n', hn', rfl⟩ := hj
        obtain ⟨hlt, hn''⟩ := List.getElem?_eq_some_iff.1 hn'
        rw [(h7 y hA).2 j (by rw [← h4]; exact hlt)]
        simp [hn']
    · intro r hr n hn
      simp only [List.mem_map, List.mem_range] at hr
      obtain ⟨m, hm, rfl⟩ := hr
      exact in64_of_wf ((hall m (by omega)).2.2.2.2.1 n hn)

theorem Tryd.gpow : Tryd.prog.globalNamed "internal/strconv.uint64pow10" = some 1 := by kernel_rfl
theorem Tryd.tpow : (Tryd.prog.globals[1]?).map (·.type) = some 187 := by kernel_rfl
theorem Tryd.upow : Tryd.prog.underlying 187 = some (.array 20 52) := by kernel_rfl
theorem Tryd.cells52 : Tryd.prog.cellsOf 52 = 1 := by kernel_rfl
theorem Tryd.cells187 : Tryd.prog.cellsOf 187 = 20 := by kernel_rfl
theorem tab_of_laid4 {W : World} (h : laidMetH Tryd.prog laid4 W) : Tab W := by
  have h' : laidMet Tryd.prog [("math/bits.deBruijn32tab", Rows.laid_math_bits_deBruijn32tab), ("math/bits.deBruijn64tab", Rows.laid_math_bits_deBruijn64tab), ("internal/strconv.uint64pow10", Rows.laid_internal_strconv_uint64pow10)] W ∧ handlesMet Tryd.prog laid1 W := h
  have t : laidMet Tryd.prog [("internal/strconv.uint64pow10", tabData .u64 pow10Tab)] W := laidMet.tail (laidMet.tail h'.1)
  exact tabIs_of_head Tryd.gpow Tryd.tpow Tryd.upow Tryd.underlying52 Tryd.cells52 Tryd.cells187 t
end Go.Proofs.YtcmmjkkpjclfgaaDoor
