import Derived.Test.YtcmmjkkpjclfgaaDoorWu
namespace Go.Proofs.YtcmmjkkpjclfgaaDoor
open Go.RowKit

/-- the bytes xs can be read at the slice that begins at a -/
def Bs (w : World) (a : Option Addr) (xs : List UInt8) : Prop :=
  (a = none ∧ xs = []) ∨ ∃ x, a = some x ∧ ∀ j u, (B8 xs)[j]? = some u → w.cell? (x.add j) = some u

def zerosObj (n : Nat) : Obj := .cells (madeCells #[.int .u8 0] n) 5
def rowObj (xs : List UInt8) : Obj := .cells (B8 xs).toArray 5
theorem b8_one (xs : List UInt8) : ∀ u ∈ B8 xs, u.oneCell' = true := by
  intro u hu; simp [B8] at hu; obtain ⟨x, _, rfl⟩ := hu; rfl
theorem setRow_alloc (w : World) (c d : Array Value) : (w.alloc (.cells c 5)).setRow w.heap.size d = w.alloc (.cells d 5) := by
  unfold World.setRow World.alloc
  have e : (w.heap.push (.cells c 5)).modify w.heap.size (fun | .cells _ t fr => .cells d t fr | o => o) = w.heap.push (.cells d 5) := by
    apply Array.ext_getElem?
    intro i
    rw [Array.getElem?_modify]
    by_cases h : i = w.heap.size
    · subst h; simp
    · simp [Array.getElem?_push, h, Ne.symm h]
  exact congrArg (fun h => ({ w with heap := h } : World)) e

set_option maxRecDepth 100000 in
theorem copied_copy (w : World) (ty : TypeId) (a : Option Addr) (c : Nat) (xs : List UInt8) (h : Bs w a xs) :
    (Builtin.copy_ #[55, 55] ty #[.slice (some ⟨w.heap.size, 0, none⟩) xs.length xs.length, .slice a xs.length c]).run Tryd.prog (w.alloc (zerosObj xs.length)) = .ok (goInt xs.length) (w.alloc (rowObj xs)) := by
  have hs : (Tryd.prog.info? 5).map (·.size) = some 1 := by
    obtain ⟨i0, hi, hz0, hz1, hz2⟩ := info_parts Tryd.info5
    simp [hi, hz1]
  rcases h with ⟨rfl, rfl⟩ | ⟨x, rfl, h⟩
  · have := run_copy_none (P := Tryd.prog) (w.alloc (zerosObj 0)) 55 55 ty 5 (some ⟨w.heap.size, 0, none⟩) none 0 0 0 c Tryd.underlying55 hs rfl
    have e : zerosObj 0 = rowObj [] := by simp [zerosObj, rowObj, madeCells, B8]
    rw [e] at this
    rw [show (List.length ([] : List UInt8)) = 0 from rfl, e]
    exact this
  · have hz : (w.alloc (zerosObj xs.length)).heap[w.heap.size]? = some (.cells (madeCells #[.int .u8 0] xs.length) 5 (0, 0)) := heap_alloc_new w _
    have hsrc : ∀ j v, (B8 xs)[j]? = some v → (w.alloc (zerosObj xs.length)).cell? (x.add j) = some v := by
      intro j v hj
      have h0 := h j v hj
      rw [World.cell?_alloc_lt _ _ _ (World.block_lt_of_cell? _ _ h0)]
      exact h0
    have := run_copy_row (P := Tryd.prog) (w.alloc (zerosObj xs.length)) 55 55 ty 5 w.heap.size 0 xs.length xs.length x xs.length c _ 5 (B8 xs) Tryd.underlying55 hs hz (by rw [B8_length]; exact (Nat.min_self _).symm) hsrc (by rw [B8_length, size_madeCells]; omega) (b8_one xs)
    rw [B8_length] at this
    rw [this]
    have e : (List.take 0 (madeCells #[Value.int .u8 0] xs.length).toList ++ B8 xs ++ List.drop (0 + xs.length) (madeCells #[Value.int .u8 0] xs.length).toList) = B8 xs := by
      rw [List.drop_eq_nil_of_le (by simp [size_madeCells])]; simp
    rw [e]
    exact congrArg _ (setRow_alloc w _ _)

set_option maxRecDepth 100000 in
set_option maxHeartbeats 400000 in
theorem copied_any (a : Option Addr) (c : Nat) (xs : List UInt8) (w : World) (h : Bs w a xs) (hl : xs.length ≤ 140737488355328) :
    Calls Tryd.prog 85 #[.slice a xs.length c] w fun e w' => e = .returned (.slice (some ⟨w.heap.size, 0, none⟩) xs.length xs.length) ∧ w' = w.alloc (rowObj xs) := by
  obtain ⟨i0, hi, hz0, hz1, hz2⟩ := info_parts Tryd.info5
  have hmk : (Instr.makeSlice 55 (.int .i64 xs.length) (.int .i64 xs.length)).run Tryd.prog w = .ok (.slice (some ⟨w.heap.size, 0, none⟩) xs.length xs.length) (w.alloc (zerosObj xs.length)) := by
    have := run_make (P := Tryd.prog) w 55 5 i0 (.int .u8 0) Tryd.underlying55 hi hz0 .i64 .i64 xs.length xs.length (by omega) (by omega) (by rw [hz2]; omega) (by omega)
    rw [hz1, Nat.mul_one, Int.toNat_natCast] at this
    exact this
  have hcp := fun ty => copied_copy w ty a c xs h
  clear hi hz0 hz1 hz2 h hl
  go_enter Tryd.func85, Tryd.ntmps85
  go_wp2
  go_ret
  exact ⟨rfl, rfl⟩
end Go.Proofs.YtcmmjkkpjclfgaaDoor
