import Derived.Test.YtcmmjkkpjclfgaaDoorFrame
import Derived.Test.YtcmmjkkpjclfgaaDoorAt
import Derived.SizedLaws
import Derived.Test.YtcmmjkkpjclfgaaDoorCpy
namespace Go.Proofs.YtcmmjkkpjclfgaaDoor
open Go.ChangeShapes Go.WideShapes Go.ChangeAt Go.RowKit

theorem laid1_met (os : Os) (args : Array Value) : laidMetH Tryd.prog laid1 ((World.doorLaid Tryd.prog 31 os).forCall (fun _ _ => 0) ⟨#[], args, []⟩).memory := door_met os args
/-- what a walk is told of a []byte that came in -/
def InB (W : World) (a : Option Addr) (len cap : Nat) (ys : List UInt8) : Prop :=
  Row W a (B8 ys) ∧ ys.length = cap ∧ len ≤ cap ∧ (a = none → cap = 0) ∧ cap ≤ 140737488351232

theorem u8_of_wf {n : Int} (h : (Lit.int .u8 n).wf = true) : n = ((UInt8.ofNat n.toNat).toNat : Int) := by
  have hb : 0 ≤ n ∧ n ≤ 255 := bounds_u8 h
  rw [UInt8.toNat_ofNat_of_lt' (show n.toNat < 256 by omega)]
  omega
theorem b8_of_ints (zs : List Int) (h : ∀ n ∈ zs, (Lit.int .u8 n).wf = true) : zs.map (Value.int .u8) = B8 (zs.map fun n => UInt8.ofNat n.toNat) := by
  unfold B8
  rw [List.map_map]
  exact List.map_congr_left fun n hn => by
    show Value.int .u8 n = Value.int .u8 _
    rw [← u8_of_wf (h n hn)]

theorem Tryd.cells5 : Tryd.prog.cellsOf 5 = 1 := by kernel_rfl
theorem Tryd.bytes5 : Tryd.prog.bytesOf 5 = 1 := by kernel_rfl
/-- a []byte that came in, opened; 'hsz': the form's own reach -/
theorem open_bytes {H : Type} {enc : TypeId × Value → H} {W : World} {b0 : Nat} {bl : Bool} {a : Option Addr} {len cap : Nat} {ts : List TypeId} {ds : List (DataW H)} {j : Nat} {d0 : DataW H} {p0 : List MemPlace}
    (h0 : ∃ fuel, DataW.trod enc Tryd.prog W b0 (fun _ => true) bl fuel 55 (Value.slice a len cap).cells.toList = some (d0, p0))
    (hsz : (DataW.weightsEach Tryd.prog ts ds).all (· ≤ reachBytes) = true) (ht : ts[j]? = some 55) (hd : ds[j]? = some d0) : ∃ ys, InB W a len cap ys := by
  obtain ⟨fuel, hf⟩ := h0
  rcases open_ints Tryd.underlying55 Tryd.underlying5 Tryd.cells5 hf with ⟨hcs, _⟩ | ⟨x, l, c, zs, hcs, _, hl, hm, hz, hx, hcell, hwz⟩
  · simp [Value.cells] at hcs
    obtain ⟨rfl, rfl, rfl⟩ := hcs
    exact ⟨[], .inl ⟨rfl, rfl⟩, rfl, Nat.le_refl _, fun _ => rfl, by omega⟩
  · simp [Value.cells] at hcs
    obtain ⟨rfl, rfl, rfl⟩ := hcs
    simp only [Prod.mk.injEq] at hx
    obtain ⟨rfl, _⟩ := hx
    have hs := sized_slice hsz ht hd Tryd.underlying55
    rw [Tryd.bytes5] at hs
    simp only [lits, List.length_map, List.length_take, List.length_drop, reachBytes] at hs
    have hz' : zs.length = cap := by simpa using hz
    refine ⟨zs.map fun n => UInt8.ofNat n.toNat, .inr ⟨x, rfl, fun j u hj => ?_⟩, by simpa using hz', hl, (fun h => by cases h), by omega⟩
    rw [← b8_of_ints zs hwz] at hj
    simp only [List.getElem?_map, Option.map_eq_some_iff] at hj
    obtain ⟨n, hn, rfl⟩ := hj
    obtain ⟨hlt, hn'⟩ := List.getElem?_eq_some_iff.1 hn
    rw [hcell j hlt]
    simp [hn]
end Go.Proofs.YtcmmjkkpjclfgaaDoor
