import Derived.Test.YtcmmjkkpjclfgaaDoorInB
import Derived.Deep.Slices
import Derived.ChangeSame
import Derived.Test.YtcmmjkkpjclfgaaDoorWT3
namespace Go.Proofs.YtcmmjkkpjclfgaaDoor
open Go.ChangeShapes Go.WideShapes Go.ChangeAt Go.RowKit Go.Deep

def fAk : Field := { name := "Kind", type := 3, offset := 0, embedded := false, tag := "", pkgPath := "", byteOffset := 0 }
def fAn : Field := { name := "N", type := 52, offset := 1, embedded := false, tag := "", pkgPath := "", byteOffset := 8 }
theorem cells3a : Tryd.prog.cellsOf 3 = 1 := by kernel_rfl
theorem cells52a : Tryd.prog.cellsOf 52 = 1 := by kernel_rfl
theorem addr_nonea (b o n : Nat) : (⟨b, o, none⟩ : Addr).add n = ⟨b, o + n, none⟩ := by
  unfold Addr.add
  split
  · rename_i h; rw [h]; rfl
  · rfl
theorem u64_of_wfa {n : Int} (h : (Lit.int .u64 n).wf = true) : n = (n.toNat : Int) ∧ n.toNat < 18446744073709551616 := by
  simp only [Lit.wf, Bool.and_eq_true, decide_eq_true_eq] at h
  have h1 : 0 ≤ n := h.1
  have h2 : n ≤ 18446744073709551615 := h.2
  omega
theorem uA : Tryd.prog.underlying 77 = some (.slice 84) := by kernel_rfl
theorem uAk : Tryd.prog.underlying 84 = some (.struct #[fAk, fAn]) := by kernel_rfl
theorem cellsAk : Tryd.prog.cellsOf 84 = 2 := by kernel_rfl
theorem bytesAk : Tryd.prog.bytesOf 84 = 16 := by kernel_rfl
theorem list2 {α : Type} {l : List α} (h : l.length = 2) : ∃ a b, l = [a, b] := by
  cases l with
  | nil => simp at h
  | cons a l =>
    cases l with
    | nil => simp at h
    | cons b l =>
      cases l with
      | nil => exact ⟨a, b, rfl⟩
      | cons d l => simp at h
/-- a row of Asks that came in, opened -/
theorem open_asks {H : Type} {enc : TypeId × Value → H} {W : World} {b0 : Nat} {bl : Bool} {a : Option Addr} {len cap : Nat} {tys : List TypeId} {ds : List (DataW H)} {j : Nat} {d0 : DataW H} {p0 : List MemPlace}
    (h0 : ∃ fuel, DataW.trod enc Tryd.prog W b0 (fun _ => true) bl fuel 77 (Value.slice a len cap).cells.toList = some (d0, p0))
    (hsz : (DataW.weightsEach Tryd.prog tys ds).all (· ≤ reachBytes) = true) (ht : tys[j]? = some 77) (hd : ds[j]? = some d0) :
    ∃ ts : List Ak, ts.length = len ∧ RowA W a ts ∧ ts.length ≤ 140737488355328 := by
  obtain ⟨fuel, hf⟩ := h0
  rcases open_slice uA hf with ⟨hcs, _⟩ | ⟨x, l, c, m, n, D, Pl, hcs, _, hl, _, hmm, hx, hall⟩
  · simp [Value.cells] at hcs
    obtain ⟨rfl, rfl, rfl⟩ := hcs
    exact ⟨[], rfl, fun m t h => by simp at h, by simp⟩
  · simp [Value.cells] at hcs
    obtain ⟨rfl, rfl, rfl⟩ := hcs
    simp only [Prod.mk.injEq] at hx
    obtain ⟨rfl, _⟩ := hx
    have hs := sized_slice hsz ht hd uA
    rw [bytesAk] at hs
    simp only [List.length_map, List.length_range, reachBytes] at hs
    simp only [if_true] at hmm
    subst hmm
    have each : ∀ i, i < len → ∃ t : Ak, t.n < 18446744073709551616 ∧ W.cell? (x.add (i * 2)) = some (.int .i64 t.k) ∧ W.cell? (x.add (i * 2 + 1)) = some (.int .u64 (t.n : Int)) := by
      intro i hi
      obtain ⟨cs', h1, h2⟩ := hall i (by omega)
      rw [cellsAk] at h1
      obtain ⟨_, hlen, hcell⟩ := World.cells?_some h1
      obtain ⟨xs, k, hk, hxy, _, hxl, hfd⟩ := DataW.trod_struct uAk h2
      obtain ⟨v0, v1, rfl⟩ := list2 hlen
      · have g0 := hfd 0 fAk rfl
        have g1 := hfd 1 fAn rfl
        have hx3 : xs.length = 2 := hxl
        simp only [fAk, fAn, cells3a, cells52a, List.drop_zero, List.drop_succ_cons, List.take_succ_cons, List.take_zero] at g0 g1
        rw [List.getElem?_eq_getElem (by omega)] at g0 g1
        obtain ⟨z0, e0, _, _⟩ := DataW.trod_int Tryd.underlying3 g0
        obtain ⟨z1, e1, _, hw1⟩ := DataW.trod_int Tryd.underlying52 g1
        have d0 := hcell 0 (by omega)
        have d1 := hcell 1 (by omega)
        rw [Go.Deep.add_add] at d0 d1
        obtain ⟨n1, n2⟩ := u64_of_wfa hw1
        have e0' : v0 = .int .i64 z0 := by simpa using e0
        have e1' : v1 = .int .u64 z1 := by simpa using e1
        refine ⟨⟨z0, z1.toNat⟩, n2, ?_, ?_⟩
        · rw [e0'] at d0; simpa using d0
        · rw [e1'] at d1; rw [← n1]; simpa using d1
    have inh : Inhabited Ak := ⟨⟨0, 0⟩⟩
    obtain ⟨T, hT⟩ := choose_lt each
    refine ⟨(List.range len).map T, by simp, ?_, by simp; omega⟩
    · intro i t hi
      simp only [List.getElem?_map, Option.map_eq_some_iff] at hi
      obtain ⟨n', hn', rfl⟩ := hi
      obtain ⟨hlt, hn''⟩ := List.getElem?_eq_some_iff.1 hn'
      simp at hlt hn''
      subst hn''
      obtain ⟨hn64, d0, d1⟩ := hT i hlt
      obtain ⟨b, o, s⟩ := x
      have z0 := (hT 0 (by omega)).2.1
      have hsn : s = none := by simpa [Addr.add] using World.cell?_spot z0
      subst hsn
      refine ⟨hn64, b, o, rfl, ?_, ?_⟩
      · rw [addr_nonea] at d0; exact d0
      · rw [addr_nonea, ← Nat.add_assoc] at d1; exact d1
end Go.Proofs.YtcmmjkkpjclfgaaDoor
