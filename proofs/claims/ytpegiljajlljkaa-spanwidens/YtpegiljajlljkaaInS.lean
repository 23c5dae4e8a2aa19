import Derived.Test.YtpegiljajlljkaaSF
import Derived.Test.YtpegiljajlljkaaWd
import Derived.Deep.Slices
import Derived.ChangeSame
namespace Go.Proofs.Ytpegiljajlljkaa
open Go.ChangeShapes Go.WideShapes Go.ChangeAt Go.RowKit Go.Deep
theorem addr_none (b o n : Nat) : (⟨b, o, none⟩ : Addr).add n = ⟨b, o + n, none⟩ := by
  unfold Addr.add
  split
  · rename_i h; rw [h]; rfl
  · rfl
/-- a row of Spans that came in, opened -/
theorem open_spans {H : Type} {enc : TypeId × Value → H} {W : World} {r : Reach} {b0 base : Nat} {v : Value} {d : DataW H} {p : List MemPlace}
    (hval : Value.okWide Try.prog W r b0 60 v) (h : DataW.Trod enc Try.prog W base (fun _ => true) true 60 v d p) : ∃ a cap ts, v = .slice a (List.length ts) cap ∧ RowS W a ts := by
  obtain ⟨fuel, hf⟩ := h
  obtain ⟨a, len, cap, rfl⟩ := okWide_slice Try.underlying60 hval
  rcases open_slice Try.underlying60 hf with ⟨hcs, _⟩ | ⟨x, l, c, m, n, D, Pl, hcs, _, hl, _, hmm, hx, hall⟩
  · simp [Value.cells] at hcs
    obtain ⟨rfl, rfl, rfl⟩ := hcs
    exact ⟨none, 0, [], rfl, fun m t h => by simp at h⟩
  · simp [Value.cells] at hcs
    obtain ⟨rfl, rfl, rfl⟩ := hcs
    simp only [if_true] at hmm
    subst hmm
    have each : ∀ i, i < len → ∃ t : Int × Int, (i64 t.1 ∧ i64 t.2) ∧ W.cell? (x.add (i * 2)) = some (.int .i64 t.1) ∧ W.cell? (x.add (i * 2 + 1)) = some (.int .i64 t.2) := by
      intro i hi
      obtain ⟨cs', h1, h2⟩ := hall i (by omega)
      rw [Try.cells23] at h1
      obtain ⟨_, hlen, hcell⟩ := World.cells?_some h1
      have hc2 : ∃ v0 v1, cs' = [v0, v1] := by
        match cs', hlen with
        | [v0, v1], _ => exact ⟨v0, v1, rfl⟩
      obtain ⟨v0, v1, rfl⟩ := hc2
      obtain ⟨z0, z1, e0, e1, i0, i1⟩ := span_cells h2
      have d0 := hcell 0 (by omega)
      have d1 := hcell 1 (by omega)
      rw [Go.Deep.add_add] at d0 d1
      refine ⟨(z0, z1), ⟨i0, i1⟩, ?_, ?_⟩
      · rw [e0] at d0; simpa using d0
      · rw [e1] at d1; simpa using d1
    obtain ⟨T, hT⟩ := choose_lt each
    refine ⟨some x, _, (List.range len).map T, by rw [List.length_map, List.length_range], ?_⟩
    intro i t hi
    simp only [List.getElem?_map, Option.map_eq_some_iff] at hi
    obtain ⟨n', hn', rfl⟩ := hi
    obtain ⟨hlt, hn''⟩ := List.getElem?_eq_some_iff.1 hn'
    simp at hlt hn''
    subst hn''
    obtain ⟨j0, d0, d1⟩ := hT i hlt
    obtain ⟨b, o, s⟩ := x
    have z0 := (hT 0 (by omega)).2.1
    have hsn : s = none := by simpa [Addr.add] using World.cell?_spot z0
    subst hsn
    refine ⟨j0.1, j0.2, b, o, rfl, ?_, ?_⟩
    · rw [addr_none] at d0; exact d0
    · rw [addr_none, ← Nat.add_assoc] at d1; exact d1
end Go.Proofs.Ytpegiljajlljkaa
