import Derived.Test.YtcmmjkkpjclfgaaDoorAt
import Derived.Test.YtcmmjkkpjclfgaaDoorCpy
import Derived.Deep.QuietTactic
import Derived.BigQuiet
namespace Go.Proofs.YtcmmjkkpjclfgaaDoor
open Go.RowKit

/-- the Reader at block g: of the bytes bs (in block rb), at place p, up to place q -/
structure Rdr (w : World) (g rb : Nat) (bs : List UInt8) (p q : Nat) : Prop where
  obj : w.heap[g]? = some (Obj.cells #[.slice (some ⟨rb, 0, none⟩) bs.length bs.length, .int .i64 (p : Int), .int .i64 (q : Int)] 140 (0, 0))
  row : w.heap[rb]? = some (rowObj bs)
  pq : p ≤ q
  qb : q ≤ bs.length
  len : bs.length ≤ 140737488355328
theorem Rdr.keep {S : Nat → Prop} {w w' : World} {g rb : Nat} {bs : List UInt8} {p q : Nat} (h : Rdr w g rb bs p q) (f : Fr S w w') (h1 : ¬ S g) (h2 : ¬ S rb) : Rdr w' g rb bs p q :=
  ⟨f.heap h.obj h1, f.heap h.row h2, h.pq, h.qb, h.len⟩
theorem Rdr.c0 {w : World} {g rb : Nat} {bs : List UInt8} {p q : Nat} (h : Rdr w g rb bs p q) : w.cell? ⟨g, 0, none⟩ = some (.slice (some ⟨rb, 0, none⟩) bs.length bs.length) := by simp [World.cell?, h.obj]
theorem Rdr.c1 {w : World} {g rb : Nat} {bs : List UInt8} {p q : Nat} (h : Rdr w g rb bs p q) : w.cell? ⟨g, 1, none⟩ = some (.int .i64 (p : Int)) := by simp [World.cell?, h.obj]
theorem Rdr.c2 {w : World} {g rb : Nat} {bs : List UInt8} {p q : Nat} (h : Rdr w g rb bs p q) : w.cell? ⟨g, 2, none⟩ = some (.int .i64 (q : Int)) := by simp [World.cell?, h.obj]
theorem Rdr.fz {w : World} {g rb : Nat} {bs : List UInt8} {p q : Nat} (h : Rdr w g rb bs p q) (o : Nat) : w.frozen? ⟨g, o, none⟩ = false := by simp [World.frozen?, h.obj]

def rdrObj (rb : Nat) (bs : List UInt8) (p q : Nat) : Obj := .cells #[.slice (some ⟨rb, 0, none⟩) bs.length bs.length, .int .i64 (p : Int), .int .i64 (q : Int)] 140
set_option maxRecDepth 100000 in
set_option maxHeartbeats 400000 in
theorem read_any (a : Option Addr) (c : Nat) (xs : List UInt8) (w : World) (h : Bs w a xs) (hl : xs.length ≤ 140737488355328) :
    Calls Tryd.prog 46 #[.slice a xs.length c] w fun e w' => e = .returned (.pointer (some ⟨w.heap.size + 1, 0, none⟩)) ∧ w' = (w.alloc (rowObj xs)).alloc (rdrObj w.heap.size xs 0 xs.length) := by
  have C := copied_any a c xs w h hl
  clear h hl
  go_enter Tryd.func46, Tryd.ntmps46
  go_wp2_with fail
  refine C.mono ?_
  rintro e w' ⟨rfl, rfl⟩
  clear C
  go_wp2
  go_ret
  refine ⟨rfl, ?_⟩
  rfl
theorem rdr_new (xs : List UInt8) (w : World) (hl : xs.length ≤ 140737488355328) : Rdr ((w.alloc (rowObj xs)).alloc (rdrObj w.heap.size xs 0 xs.length)) (w.heap.size + 1) w.heap.size xs 0 xs.length := by
  have h1 := heap_alloc_new (w.alloc (rowObj xs)) (rdrObj w.heap.size xs 0 xs.length)
  rw [World.size_alloc] at h1
  exact ⟨h1, (Below.heap_alloc _ _ _ (by simp)).trans (heap_alloc_new w _), Nat.zero_le _, Nat.le_refl _, hl⟩

theorem rat_any (g rb : Nat) (bs : List UInt8) (p q : Nat) (w : World) (h : Rdr w g rb bs p q) :
    Calls Tryd.prog 42 #[.pointer (some ⟨g, 0, none⟩)] w fun e w' => e = .returned (.int .i64 (p : Int)) ∧ w = w' := by
  have c1 := h.c1
  clear h
  go_enter Tryd.func42, Tryd.ntmps42
  go_wp2
  go_ret
  exact ⟨rfl, rfl⟩
set_option maxRecDepth 100000 in
set_option maxHeartbeats 400000 in
theorem left_any (g rb : Nat) (bs : List UInt8) (p q : Nat) (w : World) (h : Rdr w g rb bs p q) :
    Calls Tryd.prog 41 #[.pointer (some ⟨g, 0, none⟩)] w fun e w' => e = .returned (.int .i64 ((q - p : Nat) : Int)) ∧ ∃ n, w' = w.drewN n := by
  have c1 := h.c1
  have c2 := h.c2
  have b1 : (p : Int) ≤ q := by have := h.pq; omega
  have b2 : (q : Int) ≤ 140737488355328 := by have := h.qb; have := h.len; omega
  have HE : Hid ((q : Int) - p = ((q - p : Nat) : Int)) := by have := h.pq; unfold Hid; omega
  clear h
  go_enter Tryd.func41, Tryd.ntmps41
  go_wp2
  go_quiet (fail)
  go_wp2
  go_ret
  exact ⟨by rw [← HE.out]; rfl, _, rfl⟩
end Go.Proofs.YtcmmjkkpjclfgaaDoor
