import Derived.Test.YtcmmjkkpjclfgaaDoorInB
import Derived.Test.YtcmmjkkpjclfgaaDoorWL1
import Derived.Deep.Slices
import Derived.ChangeSame
namespace Go.Proofs.YtcmmjkkpjclfgaaDoor
open Go.ChangeShapes Go.WideShapes Go.ChangeAt Go.RowKit Go.Deep

def fK : Field := { name := "Kind", type := 3, offset := 0, embedded := false, tag := "", pkgPath := "", byteOffset := 0 }
def fN : Field := { name := "N", type := 52, offset := 1, embedded := false, tag := "", pkgPath := "", byteOffset := 8 }
def fB : Field := { name := "B", type := 55, offset := 2, embedded := false, tag := "", pkgPath := "", byteOffset := 16 }
theorem u45 : Tryd.prog.underlying 45 = some (.slice 72) := by kernel_rfl
theorem u72 : Tryd.prog.underlying 72 = some (.struct #[fK, fN, fB]) := by kernel_rfl
theorem cells72 : Tryd.prog.cellsOf 72 = 3 := by kernel_rfl
theorem bytes72 : Tryd.prog.bytesOf 72 = 40 := by kernel_rfl
theorem cells3t : Tryd.prog.cellsOf 3 = 1 := by kernel_rfl
theorem cells52t : Tryd.prog.cellsOf 52 = 1 := by kernel_rfl
theorem cells55t : Tryd.prog.cellsOf 55 = 1 := by kernel_rfl

/-- the bytes of a Thing that came in, opened -/
theorem open_bytes' {H : Type} {enc : TypeId × Value → H} {W : World} {b0 : Nat} {bl : Bool} {fuel : Nat} {v : Value} {y : DataW H × List MemPlace}
    (hf : DataW.trod enc Tryd.prog W b0 (fun _ => true) bl fuel 55 [v] = some y) : ∃ a len cap ys, v = .slice a len cap ∧ Row W a (B8 ys) ∧ ys.length = cap ∧ len ≤ cap ∧ (a = none → cap = 0) ∧ cap ≤ 9223372036854775807 := by
  rcases open_ints Tryd.underlying55 Tryd.underlying5 Tryd.cells5 hf with ⟨hcs, _⟩ | ⟨x, l, c, zs, hcs, _, hl, hm, hz, hx, hcell, hwz⟩
  · obtain rfl : v = .slice none 0 0 := by simpa using hcs
    exact ⟨none, 0, 0, [], rfl, .inl ⟨rfl, rfl⟩, rfl, Nat.le_refl _, fun _ => rfl, by omega⟩
  · obtain rfl : v = .slice (some x) l c := by simpa using hcs
    have hz' : zs.length = c := by simpa using hz
    refine ⟨some x, l, c, zs.map fun n => UInt8.ofNat n.toNat, rfl, .inr ⟨x, rfl, fun j u hj => ?_⟩, by simpa using hz', hl, (fun h => by cases h), by unfold maxLen at hm; omega⟩
    rw [← b8_of_ints zs hwz] at hj
    simp only [List.getElem?_map, Option.map_eq_some_iff] at hj
    obtain ⟨n, hn, rfl⟩ := hj
    obtain ⟨hlt, hn'⟩ := List.getElem?_eq_some_iff.1 hn
    rw [hcell j hlt]
    simp [hn]
theorem list3 {α : Type} {l : List α} (h : l.length = 3) : ∃ a b c, l = [a, b, c] := by
  cases l with
  | nil => simp at h
  | cons a l =>
    cases l with
    | nil => simp at h
    | cons b l =>
      cases l with
      | nil => simp at h
      | cons c l =>
        cases l with
        | nil => exact ⟨a, b, c, rfl⟩
        | cons d l => simp at h
theorem addr_none (b o n : Nat) : (⟨b, o, none⟩ : Addr).add n = ⟨b, o + n, none⟩ := by
  unfold Addr.add
  split
  · rename_i h; rw [h]; rfl
  · rfl
theorem u64_of_wf {n : Int} (h : (Lit.int .u64 n).wf = true) : n = (n.toNat : Int) ∧ n.toNat < 18446744073709551616 := by
  simp only [Lit.wf, Bool.and_eq_true, decide_eq_true_eq] at h
  have h1 : 0 ≤ n := h.1
  have h2 : n ≤ 18446744073709551615 := h.2
  omega
/-- a row of Things that came in, opened -/
theorem open_things {H : Type} {enc : TypeId × Value → H} {W : World} {b0 : Nat} {bl : Bool} {a : Option Addr} {len cap : Nat} {tys : List TypeId} {ds : List (DataW H)} {j : Nat} {d0 : DataW H} {p0 : List MemPlace}
    (h0 : ∃ fuel, DataW.trod enc Tryd.prog W b0 (fun _ => true) bl fuel 45 (Value.slice a len cap).cells.toList = some (d0, p0))
    (hsz : (DataW.weightsEach Tryd.prog tys ds).all (· ≤ reachBytes) = true) (ht : tys[j]? = some 45) (hd : ds[j]? = some d0) :
    ∃ ts : List Th, ts.length = len ∧ RowT W a ts ∧ (∀ t ∈ ts, t.Ok W) ∧ ts.length ≤ 140737488355328 := by
  obtain ⟨fuel, hf⟩ := h0
  rcases open_slice u45 hf with ⟨hcs, _⟩ | ⟨x, l, c, m, n, D, Pl, hcs, _, hl, _, hmm, hx, hall⟩
  · simp [Value.cells] at hcs
    obtain ⟨rfl, rfl, rfl⟩ := hcs
    exact ⟨[], rfl, fun m t h => by simp at h, by simp, by simp⟩
  · simp [Value.cells] at hcs
    obtain ⟨rfl, rfl, rfl⟩ := hcs
    simp only [Prod.mk.injEq] at hx
    obtain ⟨rfl, _⟩ := hx
    have hs := sized_slice hsz ht hd u45
    rw [bytes72] at hs
    simp only [List.length_map, List.length_range, reachBytes] at hs
    simp only [if_true] at hmm
    subst hmm
    have each : ∀ i, i < len → ∃ t : Th, t.Ok W ∧ W.cell? (x.add (i * 3)) = some (.int .i64 t.k) ∧ W.cell? (x.add (i * 3 + 1)) = some (.int .u64 (t.n : Int)) ∧ W.cell? (x.add (i * 3 + 2)) = some (.slice t.a t.len t.cap) := by
      intro i hi
      obtain ⟨cs', h1, h2⟩ := hall i (by omega)
      rw [cells72] at h1
      obtain ⟨_, hlen, hcell⟩ := World.cells?_some h1
      obtain ⟨xs, k, hk, hxy, _, hxl, hfd⟩ := DataW.trod_struct u72 h2
      obtain ⟨v0, v1, v2, rfl⟩ := list3 hlen
      · have g0 := hfd 0 fK rfl
        have g1 := hfd 1 fN rfl
        have g2 := hfd 2 fB rfl
        have hx3 : xs.length = 3 := hxl
        simp only [fK, fN, fB, cells3t, cells52t, cells55t, List.drop_zero, List.drop_succ_cons, List.take_succ_cons, List.take_zero] at g0 g1 g2
        rw [List.getElem?_eq_getElem (by omega)] at g0 g1 g2
        obtain ⟨z0, e0, _, _⟩ := DataW.trod_int Tryd.underlying3 g0
        obtain ⟨z1, e1, _, hw1⟩ := DataW.trod_int Tryd.underlying52 g1
        obtain ⟨a2, l2, c2, ys, e2, q1, q2, q3, q4, q5⟩ := open_bytes' g2
        have d0 := hcell 0 (by omega)
        have d1 := hcell 1 (by omega)
        have d2 := hcell 2 (by omega)
        rw [Go.Deep.add_add] at d0 d1 d2
        obtain ⟨n1, n2⟩ := u64_of_wf hw1
        have e0' : v0 = .int .i64 z0 := by simpa using e0
        have e1' : v1 = .int .u64 z1 := by simpa using e1
        refine ⟨⟨z0, z1.toNat, a2, l2, c2, ys⟩, ⟨n2, q1, q2, q3, q4, q5⟩, ?_, ?_, ?_⟩
        · rw [e0'] at d0; simpa using d0
        · rw [e1'] at d1; rw [← n1]; simpa using d1
        · rw [e2] at d2; simpa using d2
    have inh : Inhabited Th := ⟨⟨0, 0, none, 0, 0, []⟩⟩
    obtain ⟨T, hT⟩ := choose_lt each
    refine ⟨(List.range len).map T, by simp, ?_, ?_, by simp; omega⟩
    · intro i t hi
      simp only [List.getElem?_map, Option.map_eq_some_iff] at hi
      obtain ⟨n', hn', rfl⟩ := hi
      obtain ⟨hlt, hn''⟩ := List.getElem?_eq_some_iff.1 hn'
      simp at hlt hn''
      subst hn''
      obtain ⟨_, d0, d1, d2⟩ := hT i hlt
      obtain ⟨b, o, s⟩ := x
      have z0 := (hT 0 (by omega)).2.1
      have hsn : s = none := by simpa [Addr.add] using World.cell?_spot z0
      subst hsn
      refine ⟨b, o, rfl, ?_, ?_, ?_⟩
      · rw [addr_none] at d0; exact d0
      · rw [addr_none, ← Nat.add_assoc] at d1; exact d1
      · rw [addr_none, ← Nat.add_assoc] at d2; exact d2
    · intro t ht
      simp only [List.mem_map, List.mem_range] at ht
      obtain ⟨i, hi, rfl⟩ := ht
      exact (hT i hi).1
end Go.Proofs.YtcmmjkkpjclfgaaDoor
