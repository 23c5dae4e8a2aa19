import Derived.Test.YtcmmjkkpjclfgaaDoorMade
import Derived.Test.YtcmmjkkpjclfgaaDoorInI
import Derived.Deep.Matrix
namespace Go.Proofs.YtcmmjkkpjclfgaaDoor
open Go.ChangeShapes Go.WideShapes Go.ChangeAt Go.RowKit

/-- what a walk is told of a [][]int that came in: rs are its rows up to its length -/
def InII (W : World) (a : Option Addr) (len : Nat) (rs : List RowI) : Prop :=
  Row W a (rs.map RowI.val) ∧ rs.length = len ∧ (∀ r ∈ rs, r.Ok W) ∧ rs.length ≤ 140737488355328
theorem Tryd.cells25 : Tryd.prog.cellsOf 25 = 1 := by kernel_rfl
theorem Tryd.bytes25 : Tryd.prog.bytesOf 25 = 24 := by kernel_rfl
theorem mem_weightsAll {H : Type} {P : Program} {e : TypeId} : ∀ {l : List (DataW H)} {d : DataW H}, d ∈ l → ∀ n ∈ d.weights P e, n ∈ DataW.weightsAll P e l
  | x :: l, d, h, n, hn => by
    simp only [DataW.weightsAll, List.mem_append]
    rcases List.mem_cons.1 h with rfl | h
    · exact Or.inl hn
    · exact Or.inr (mem_weightsAll h n hn)
theorem open_rows64 {H : Type} {enc : TypeId × Value → H} {W : World} {b0 : Nat} {bl : Bool} {a : Option Addr} {len cap : Nat} {ts : List TypeId} {ds : List (DataW H)} {j : Nat} {d0 : DataW H} {p0 : List MemPlace}
    (h0 : ∃ fuel, DataW.trod enc Tryd.prog W b0 (fun _ => true) bl fuel 22 (Value.slice a len cap).cells.toList = some (d0, p0))
    (hsz : (DataW.weightsEach Tryd.prog ts ds).all (· ≤ reachBytes) = true) (ht : ts[j]? = some 22) (hd : ds[j]? = some d0) : ∃ rs, InII W a len rs := by
  obtain ⟨fuel, hf⟩ := h0
  rcases Go.Deep.open_int_rows Tryd.underlying22 Tryd.underlying25 Tryd.underlying3 Tryd.cells25 Tryd.cells3 hf with ⟨hcs, _⟩ | ⟨x, l, c, A, L, C, Z, hcs, _, hl, _, hx, hall⟩
  · simp [Value.cells] at hcs
    obtain ⟨rfl, rfl, rfl⟩ := hcs
    exact ⟨[], .inl ⟨rfl, rfl⟩, rfl, by simp, by simp⟩
  · simp [Value.cells] at hcs
    obtain ⟨rfl, rfl, rfl⟩ := hcs
    simp only [Prod.mk.injEq] at hx
    obtain ⟨rfl, _⟩ := hx
    have hs := sized_slice hsz ht hd Tryd.underlying22
    rw [Tryd.bytes25] at hs
    simp only [List.length_map, List.length_range, reachBytes] at hs
    refine ⟨(List.range len).map fun r => ⟨A r, L r, C r, Z r⟩, .inr ⟨x, rfl, fun j u hj => ?_⟩, by simp, ?_, by simp; omega⟩
    · simp only [List.map_map, List.getElem?_map, Option.map_eq_some_iff] at hj
      obtain ⟨n, hn, rfl⟩ := hj
      obtain ⟨hlt, hn'⟩ := List.getElem?_eq_some_iff.1 hn
      simp at hlt hn'
      subst hn'
      exact (hall j (by omega)).1
    · intro r hr
      simp only [List.mem_map, List.mem_range] at hr
      obtain ⟨n, hn, rfl⟩ := hr
      obtain ⟨_, h2, h3, h4, h5, h6, h7⟩ := hall n (by omega)
      have hb : C n * 8 ≤ 140737488351232 := by
        cases hA : A n with
        | none => rw [h6 hA]; omega
        | some y =>
          have hm : (C n * 8) ∈ (Go.Deep.intRow (H := H) .i64 (A n) (L n) (Z n)).weights Tryd.prog 25 := by
            rw [hA]
            simp only [Go.Deep.intRow, DataW.weights, Tryd.underlying25, Tryd.bytes3]
            refine List.mem_cons.2 (.inl ?_)
            simp [lits, h4]
            omega
          have := List.all_eq_true.1 hsz _ (DataW.weights_mem_each ht hd (C n * 8) (by
            simp only [DataW.weights, Tryd.underlying22]
            exact List.mem_cons_of_mem _ (List.mem_append_left _ (mem_weightsAll (List.mem_map.2 ⟨n, List.mem_range.2 hn, rfl⟩) _ hm))))
          exact of_decide_eq_true this
      refine ⟨?_, h4, h2, h6, hb⟩
      cases hA : A n with
      | none => exact .inl ⟨rfl, by have := h6 hA; rw [this] at h4; simp [I64, List.eq_nil_of_length_eq_zero h4]⟩
      | some y =>
        refine .inr ⟨y, rfl, fun j u hj => ?_⟩
        simp only [I64, List.getElem?_map, Option.map_eq_some_iff] at hj
        obtain ⟨n', hn', rfl⟩ := hj
        obtain ⟨hlt, hn''⟩ := List.getElem?_eq_some_iff.1 hn'
        rw [(h7 y hA).2 j (by rw [← h4]; exact hlt)]
        simp [hn']
end Go.Proofs.YtcmmjkkpjclfgaaDoor
