import Derived.Test.YtcmmjkkpjclfgaaDoorProg
import Derived.Test.YtcmmjkkpjclfgaaDoorBase
namespace Go.Proofs.YtcmmjkkpjclfgaaDoor
open Go.RowKit
theorem Tryd.info5 : (Tryd.prog.info? 5).map (fun i => (i.zero, i.size, i.bytes)) = some (some (.int .u8 0), 1, 1) := by kernel_rfl

/-- the Writer at block g holds the bytes bs, in a row of its own at block r -/
structure Wtr (w : World) (g : Nat) (r : Option Nat) (bs : List UInt8) : Prop where
  is : ∃ v, w.heap[g]? = some (.cells #[v] 136 (0, 0)) ∧ v.ownBlock = r ∧ r ≠ some g ∧ w.ownsRow 0 5 1 v bs.length (B8 bs)

/-- how a Writer's call leaves the world -/
def WStep (w w' : World) (g : Nat) (r : Option Nat) (bs : List UInt8) : Prop :=
  ∃ r', Wtr w' g r' bs ∧ Fr (fun k => k = g ∨ some k = r) w w' ∧ (r' = r ∨ ∃ k, r' = some k ∧ w.heap.size ≤ k)

/-- a row stayed where it was, or went into a new block -/
def RowTo (w : World) (r r' : Option Nat) : Prop := r' = r ∨ ∃ k, r' = some k ∧ w.heap.size ≤ k
theorem WStep.go {a b c : World} {g : Nat} {r r1 : Option Nat} {cs : List UInt8} (f1 : Fr (fun k => k = g ∨ some k = r) a b) (h1 : RowTo a r r1) (h : WStep b c g r1 cs) : WStep a c g r cs := by
  obtain ⟨r2, w2, f2, h2⟩ := h
  refine ⟨r2, w2, f1.trans' f2 (fun _ _ h => h) ?_, ?_⟩
  · rintro j hj (rfl | hr)
    · exact .inl rfl
    · rcases h1 with rfl | ⟨k, rfl, hk⟩
      · exact .inr hr
      · cases hr; omega
  · rcases h2 with rfl | ⟨k, rfl, hk⟩
    · exact h1
    · exact .inr ⟨k, rfl, Nat.le_trans f1.size hk⟩
theorem WStep.trans {a b c : World} {g : Nat} {r : Option Nat} {bs cs : List UInt8} (h : WStep a b g r bs) (k : ∀ r', Wtr b g r' bs → WStep b c g r' cs) : WStep a c g r cs := by
  obtain ⟨r1, w1, f1, h1⟩ := h
  exact WStep.go f1 h1 (k r1 w1)

theorem setCell_heap_one {w : World} {g : Nat} {v u : Value} {T : TypeId} {fr : Nat × Nat} (h : w.heap[g]? = some (.cells #[v] T fr)) : (w.setCell ⟨g, 0, none⟩ u).heap[g]? = some (.cells #[u] T fr) := by
  simp [World.setCell, Array.getElem?_modify, h]

/-- the store behind an append: one step -/
theorem wtr_store {w w0 w1 : World} {g : Nat} {v v' : Value} {cs : List UInt8} (hg : w.heap[g]? = some (.cells #[v] 136 (0, 0))) (hne : v.ownBlock ≠ some g)
    (h0 : Fr (fun _ => False) w w0) (hgr : w0.grownBy w1 v.ownBlock) (hown' : w1.ownsRow 0 5 1 v' cs.length (B8 cs)) (S : Nat) (hS : S = w0.heap.size) (hv' : v'.ownBlock = v.ownBlock ∨ v'.ownBlock = some S) :
    WStep w (w1.setCell ⟨g, 0, none⟩ v') g v.ownBlock cs := by
  subst hS
  have hgl := heap_lt hg
  have hs0 := h0.size
  have f1 : Fr (fun k => k = g ∨ some k = v.ownBlock) w w1 := (h0.mono (fun _ _ h => h.elim)).grown hgr (fun k hk _ => .inr hk.symm)
  have hg0 := h0.heap hg (fun h => h)
  have hg1 : w1.heap[g]? = some (.cells #[v] 136 (0, 0)) := (hgr.block g (heap_lt hg0) (fun e => hne e.symm)).trans hg0
  have hne' : v'.ownBlock ≠ some g := by
    rcases hv' with h | h
    · rw [h]; exact hne
    · rw [h]; intro e; cases e; omega
  refine ⟨v'.ownBlock, ⟨v', setCell_heap_one hg1, rfl, hne', ?_⟩, f1.setCell _ (fun _ => .inl rfl) _, ?_⟩
  · exact ownsRow_heap hown' (fun k hk => Below.heap_setCell _ _ _ _ (fun e => hne' (by rw [hk]; exact congrArg some e)))
  · rcases hv' with h | h
    · exact .inl h
    · exact .inr ⟨_, h, hs0⟩

/-- behind an append onto a Writer's row, ahead of the store -/
theorem wtr_after {w w0 w1 : World} {g n : Nat} {v : Value} {cs : List UInt8} {a' : Option Addr} {c' S : Nat} {xs : List Value} (hg : w.heap[g]? = some (.cells #[v] 136 (0, 0))) (hne : v.ownBlock ≠ some g)
    (h0 : Fr (fun _ => False) w w0) (hgr : w0.grownBy w1 v.ownBlock) (hn : n = cs.length) (hx : xs = B8 cs) (hown' : w1.ownsRow 0 5 1 (.slice a' n c') n xs) (hS : S = w0.heap.size)
    (hwh : (Value.slice a' n c').ownBlock = v.ownBlock ∨ (Value.slice a' n c').ownBlock = some S) :
    w1.cell? ⟨g, 0, none⟩ = some v ∧ w1.frozen? ⟨g, 0, none⟩ = false ∧ Hid (WStep w (w1.setCell ⟨g, 0, none⟩ (.slice a' n c')) g v.ownBlock cs) := by
  subst hn
  subst hx
  have hg0 := h0.heap hg (fun h => h)
  have hg1 : w1.heap[g]? = some (.cells #[v] 136 (0, 0)) := (hgr.block g (heap_lt hg0) (fun e => hne e.symm)).trans hg0
  exact ⟨by simp [World.cell?, hg1], by simp [World.frozen?, hg1], wtr_store hg hne h0 hgr hown' S hS hwh⟩
theorem wtr_one (bs : List UInt8) (x : Int) (u : UInt8) (h : x = u.toNat) : B8 bs ++ [.int .u8 x] = B8 (bs ++ [u]) := by rw [B8_append, h]; rfl
theorem one_cell (x : Int) : ∀ u ∈ [Value.int .u8 x], u.oneCell' = true := by intro u hu; simp at hu; subst hu; rfl

theorem new_any (w : World) :
    Calls Tryd.prog 44 #[] w fun e w' => e = .returned (.pointer (some ⟨w.heap.size, 0, none⟩)) ∧ w' = w.alloc (.cells #[.slice none 0 0] 136) := by
  go_enter Tryd.func44, Tryd.ntmps44
  go_wp2
  go_ret
  exact ⟨rfl, rfl⟩
theorem wtr_new (w : World) : Wtr (w.alloc (.cells #[.slice none 0 0] 136)) w.heap.size none [] :=
  ⟨_, heap_alloc_new w _, rfl, by simp, World.ownsRow_nil _ _ _ _⟩

set_option maxRecDepth 100000 in
set_option maxHeartbeats 400000 in
theorem byte_any (g : Nat) (r : Option Nat) (bs : List UInt8) (c : Int) (u : UInt8) (hu : c = u.toNat) (w : World) (h : Wtr w g r bs) (hl : Hid (bs.length ≤ 1000000000)) :
    Calls Tryd.prog 28 #[.pointer (some ⟨g, 0, none⟩), .int .u8 c] w fun e w' => e = .returned (.tuple #[]) ∧ WStep w w' g r (bs ++ [u]) := by
  obtain ⟨v, hg, rfl, hne, hown⟩ := h
  have hcell : w.cell? ⟨g, 0, none⟩ = some v := by simp [World.cell?, hg]
  have hgl := heap_lt hg
  have HU : Hid (c = u.toNat) := hu
  clear hu
  obtain ⟨i0, hi, hz0, hz1, hz2⟩ := info_parts Tryd.info5
  go_enter Tryd.func28, Tryd.ntmps28
  go_wp2_with (at_builtin; refine wpList_append_where _ rfl (.tmp 10) (.tmp 12) 55 rfl 5 i0 (.int .u8 0) 1 1 Tryd.underlying55 hi hz0 hz1 hz2 rfl (by decide) v bs.length (B8 bs) rfl (hown.alloc _) ⟨w.heap.size, 0, none⟩ 1 1 [.int .u8 c] rfl rfl ?c1 ?c2 ?c3 ?c4 ?_)
  case c1 => exact cell_one_new _ _ _
  case c2 => intro u hu; simp at hu; subst hu; rfl
  case c3 => unfold maxLen; have := hl.out; omega
  case c4 => have := hl.out; omega
  intro a' c' w1 hown' hgrow hwh
  obtain ⟨hcell1, hfro1, R⟩ := wtr_after hg hne ((Fr.refl _ w).alloc _) hgrow (by simp) (wtr_one bs c u HU.out) hown' (by simp) hwh
  clear hi hgrow hown hown' hg hwh
  go_wp2
  go_end0
  exact ⟨rfl, R⟩
end Go.Proofs.YtcmmjkkpjclfgaaDoor
