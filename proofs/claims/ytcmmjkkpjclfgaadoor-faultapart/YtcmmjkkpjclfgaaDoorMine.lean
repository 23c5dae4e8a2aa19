import Derived.Test.YtcmmjkkpjclfgaaDoorMade
import Derived.Test.YtcmmjkkpjclfgaaDoorSame
namespace Go.Proofs.YtcmmjkkpjclfgaaDoor
open Go.RowKit

/-- a row of the call's own that is flipped from its beginning up to k, beside a chain v6 of the places xs and v7 with a 7 ahead -/
structure Mine (w wr : World) (xs : List Int) (k n : Nat) (a : Option Addr) (c : Nat) (v6 v7 : Value) (kk : Int) : Prop where
  own : ∃ ys : List Int, ys.length = n ∧ (∀ j, k ≤ j → ys[j]? = xs[j]?) ∧ wr.ownsRow 0 3 1 (.slice a n c) n (I64 ys)
  lo : ∀ q, (Value.slice a n c).ownBlock = some q → w.heap.size ≤ q
  fr : Fr (fun _ => False) w wr
  e6 : Wraps wr xs v6 (.iface 29 (.int .i64 kk))
  e7 : Wraps wr [7] v7 v6
theorem Mine.drewN {w wr : World} {xs : List Int} {k n : Nat} {a : Option Addr} {c : Nat} {v6 v7 : Value} {kk : Int} (h : Mine w wr xs k n a c v6 v7 kk) (j : Nat) : Mine w (wr.drewN j) xs k n a c v6 v7 kk := by
  have f : Fr (fun _ => False) wr (wr.drewN j) := Fr.ofBelow ⟨rfl, rfl, rfl, Nat.le_refl _, fun _ _ => rfl⟩
  obtain ⟨ys, h1, h2, h3⟩ := h.own
  exact ⟨⟨ys, h1, h2, ownsRow_heap h3 (fun _ _ => rfl)⟩, h.lo, h.fr.trans f, h.e6.fr f, h.e7.fr f⟩
theorem Mine.at {w wr : World} {xs : List Int} {k n : Nat} {a : Option Addr} {c : Nat} {v6 v7 : Value} {kk : Int} (h : Mine w wr xs k n a c v6 v7 kk) (hx : xs.length = n) (hk : k < n) :
    ∃ kb z, a = some ⟨kb, 0, none⟩ ∧ xs[k]? = some z ∧ wr.cell? ⟨kb, k, none⟩ = some (.int .i64 z) ∧ wr.frozen? ⟨kb, k, none⟩ = false ∧
      ∀ u : Int, Mine w (wr.setCell ⟨kb, k, none⟩ (.int .i64 u)) xs (k + 1) n a c v6 v7 kk := by
  obtain ⟨ys, hl, hs, ho⟩ := h.own
  have ho2 := ho.2
  rcases ho2 with ⟨e, e2⟩ | ⟨kb, cap, cur, e, _, hgc, _⟩
  · omega
  · have ea : a = some ⟨kb, 0, none⟩ ∧ c = cap := by simp only [Value.slice.injEq] at e; exact ⟨e.1, e.2.2⟩
    obtain ⟨rfl, rfl⟩ := ea
    have hlo := h.lo kb rfl
    have hkx : k < xs.length := by omega
    have hky : k < ys.length := by omega
    refine ⟨kb, xs[k], rfl, by simp [hkx], ?_, ho.frozenAt k, fun u => ?_⟩
    · have := hs k (Nat.le_refl _)
      rw [ho.cellAt k (by omega)]
      simp only [I64, List.getElem?_map, this]
      simp [hkx]
    · have f : Fr (fun q => q = kb) wr (wr.setCell ⟨kb, k, none⟩ (.int .i64 u)) := (Fr.refl (fun q => q = kb) wr).setCell ⟨kb, k, none⟩ (fun _ => rfl) _
      have hkeep : ∀ (g : Nat) (cs : Array Value), wr.heap[g]? = some (Obj.cells cs 114 (0, 0)) → (wr.setCell ⟨kb, k, none⟩ (.int .i64 u)).heap[g]? = wr.heap[g]? := fun g cs hg => f.block g (heap_lt hg) (fun e => by
        subst e
        rw [hgc] at hg
        simp at hg)
      refine ⟨⟨ys.set k u, by simpa using hl, fun j hj => ?_, ?_⟩, h.lo, h.fr.trans' f (fun _ _ h => h) (fun q hq e => by subst e; omega), h.e6.keep hkeep, h.e7.keep hkeep⟩
      · rw [List.getElem?_set_ne (by omega)]; exact hs j (by omega)
      · have := (ho.stored k (.int .i64 u)).1
        have e3 : (I64 ys).set k (.int .i64 u) = I64 (ys.set k u) := by simp [I64, List.map_set]
        rw [e3] at this
        exact this
end Go.Proofs.YtcmmjkkpjclfgaaDoor
