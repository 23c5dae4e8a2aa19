import Derived.Test.YtcmmjkkpjclfgaaDoorFrame
import Derived.Test.YtcmmjkkpjclfgaaDoorAt
import Derived.SizedLaws
namespace Go.Proofs.YtcmmjkkpjclfgaaDoor
open Go.ChangeShapes Go.WideShapes Go.ChangeAt Go.RowKit

def laid4 : List (String × DataW Unit) := [("math/bits.deBruijn32tab", Rows.laid_math_bits_deBruijn32tab), ("math/bits.deBruijn64tab", Rows.laid_math_bits_deBruijn64tab), ("internal/strconv.uint64pow10", Rows.laid_internal_strconv_uint64pow10), ("errors.errorType", Rows.laid_errors_errorType)]
theorem glob_of_laid4 {W : World} (h : laidMetH Tryd.prog laid4 W) : Glob W := by
  have h' : laidMet Tryd.prog [("math/bits.deBruijn32tab", Rows.laid_math_bits_deBruijn32tab), ("math/bits.deBruijn64tab", Rows.laid_math_bits_deBruijn64tab), ("internal/strconv.uint64pow10", Rows.laid_internal_strconv_uint64pow10)] W ∧ handlesMet Tryd.prog laid1 W := h
  obtain ⟨name, u, ty, e1, e2, e3, e4, e5⟩ := h'.2 _ (List.mem_singleton.2 rfl)
  have en : name = [101, 114, 114, 111, 114] := (Option.some.inj e1).symm
  subst en
  obtain rfl := Option.some.inj (Tryd.rt.symm.trans e2)
  have hm : ty ∈ (List.range 221).filter fun t => Tryd.prog.rowNamed t [101, 114, 114, 111, 114] := List.mem_filter.2 ⟨List.mem_range.2 (by rw [← Tryd.size]; exact e3), e4⟩
  rw [Tryd.oneRow] at hm
  obtain rfl := List.mem_singleton.1 hm
  rw [hh24] at e5
  have := World.var?_cell Tryd.et e5 0
  unfold Glob
  simpa using this
theorem laid4_met (os : Os) (args : Array Value) : laidMetH Tryd.prog laid4 ((World.doorLaid Tryd.prog 31 os).forCall (fun _ _ => 0) ⟨#[], args, []⟩).memory :=
  laidMetH_of_parts3 (fuel := 8) (laidMet_of_run' 8 (by kernel_rfl) (by kernel_rfl)) (by kernel_rfl) (by kernel_rfl)

/-- what a walk is told of a []int that came in: zs are its numbers up to its capacity -/
def InI (W : World) (a : Option Addr) (len cap : Nat) (zs : List Int) : Prop :=
  Row W a (I64 zs) ∧ zs.length = cap ∧ len ≤ cap ∧ (a = none → cap = 0) ∧ cap * 8 ≤ 140737488351232 ∧ ∀ n ∈ zs, (Lit.int .i64 n).wf = true
theorem Tryd.cells3 : Tryd.prog.cellsOf 3 = 1 := by kernel_rfl
theorem Tryd.bytes3 : Tryd.prog.bytesOf 3 = 8 := by kernel_rfl
theorem open_ints64 {H : Type} {enc : TypeId × Value → H} {W : World} {b0 : Nat} {bl : Bool} {a : Option Addr} {len cap : Nat} {ts : List TypeId} {ds : List (DataW H)} {j : Nat} {d0 : DataW H} {p0 : List MemPlace}
    (h0 : ∃ fuel, DataW.trod enc Tryd.prog W b0 (fun _ => true) bl fuel 25 (Value.slice a len cap).cells.toList = some (d0, p0))
    (hsz : (DataW.weightsEach Tryd.prog ts ds).all (· ≤ reachBytes) = true) (ht : ts[j]? = some 25) (hd : ds[j]? = some d0) : ∃ zs, InI W a len cap zs := by
  obtain ⟨fuel, hf⟩ := h0
  rcases open_ints Tryd.underlying25 Tryd.underlying3 Tryd.cells3 hf with ⟨hcs, _⟩ | ⟨x, l, c, zs, hcs, _, hl, hm, hz, hx, hcell, hwz⟩
  · simp [Value.cells] at hcs
    obtain ⟨rfl, rfl, rfl⟩ := hcs
    exact ⟨[], .inl ⟨rfl, rfl⟩, rfl, Nat.le_refl _, fun _ => rfl, by omega, by simp⟩
  · simp [Value.cells] at hcs
    obtain ⟨rfl, rfl, rfl⟩ := hcs
    simp only [Prod.mk.injEq] at hx
    obtain ⟨rfl, _⟩ := hx
    have hs := sized_slice hsz ht hd Tryd.underlying25
    rw [Tryd.bytes3] at hs
    simp only [lits, List.length_map, List.length_take, List.length_drop, reachBytes] at hs
    have hz' : zs.length = cap := by simpa using hz
    refine ⟨zs, .inr ⟨x, rfl, fun j u hj => ?_⟩, hz', hl, (fun h => by cases h), by omega, hwz⟩
    simp only [I64, List.getElem?_map, Option.map_eq_some_iff] at hj
    obtain ⟨n, hn, rfl⟩ := hj
    obtain ⟨hlt, hn'⟩ := List.getElem?_eq_some_iff.1 hn
    rw [hcell j hlt]
    simp [hn]
theorem take_row3 {w : World} {a : Option Addr} {zs : List Int} (h : Row w a (I64 zs)) (m : Nat) : Row w a (I64 (zs.take m)) := by
  rcases h with ⟨rfl, h⟩ | ⟨x, rfl, h⟩
  · have e : zs = [] := List.eq_nil_of_length_eq_zero (by rw [← List.length_map (Value.int .i64), show zs.map (Value.int .i64) = [] from h]; rfl)
    exact .inl ⟨rfl, by simp [e, I64]⟩
  · refine .inr ⟨x, rfl, fun j u hj => h j u ?_⟩
    simp only [I64, List.getElem?_map, List.getElem?_take] at hj ⊢
    split at hj
    · exact hj
    · simp at hj
end Go.Proofs.YtcmmjkkpjclfgaaDoor
