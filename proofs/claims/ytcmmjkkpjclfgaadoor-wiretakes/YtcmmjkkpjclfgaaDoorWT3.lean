import Derived.Test.YtcmmjkkpjclfgaaDoorWT2
import Derived.Test.YtcmmjkkpjclfgaaDoorMade
import Derived.Test.YtcmmjkkpjclfgaaDoorNone2
import Derived.Deep.DeepCutAuto
import Derived.Deep.RegionHeld3
namespace Go.Proofs.YtcmmjkkpjclfgaaDoor
open Go.RowKit

/-- an Ask that came in -/
structure Ak where
  k : Int
  n : Nat
def RowA (w : World) (a : Option Addr) (qs : List Ak) : Prop :=
  ∀ m q, qs[m]? = some q → q.n < 18446744073709551616 ∧ ∃ b o, a = some ⟨b, o, none⟩ ∧ w.cell? ⟨b, o + m * 2, none⟩ = some (.int .i64 q.k) ∧ w.cell? ⟨b, o + m * 2 + 1, none⟩ = some (.int .u64 (q.n : Int))
theorem RowA.below {w w' : World} {a : Option Addr} {qs : List Ak} (h : RowA w a qs) (f : Below w.heap.size w w') : RowA w' a qs := by
  intro m q hm
  obtain ⟨hn, b, o, e, h0, h1⟩ := h m q hm
  exact ⟨hn, b, o, e, (f.cell (World.block_lt_of_cell? _ _ h0)).trans h0, (f.cell (World.block_lt_of_cell? _ _ h1)).trans h1⟩
theorem stk_new {w : World} {a0 : Option Addr} {al : List UInt8} {c0 : Nat} (hr : Row w a0 (B8 al)) (hl : al.length ≤ 200) (hc : (a0 = none → c0 = 0) ∧ al.length ≤ c0 ∧ c0 ≤ 140737488355328) {w1 w2 w3 w4 : World}
    (h1 : w1 = (w.alloc (rowObj al)).alloc (rdrObj w.heap.size al 0 al.length)) (h2 : w2 = w1.alloc (.cells #[.pointer (some ⟨w.heap.size + 1, 0, none⟩)] 47)) (h3 : w3 = w2.alloc (.cells #[.slice a0 al.length c0, .int .i64 0] 81)) (h4 : w4 = w3.alloc (.cells #[.pointer (some ⟨w.heap.size + 3, 0, none⟩)] 79)) :
    Stk w w4 w.heap.size al a0 c0 (some ⟨w.heap.size + 2, 0, none⟩) (some ⟨w.heap.size + 4, 0, none⟩) 1 1 [⟨w.heap.size + 1, w.heap.size + 3, 0, 0, al.length⟩] := by
  have s1 : w1.heap.size = w.heap.size + 2 := by rw [h1]; simp
  have s2 : w2.heap.size = w.heap.size + 3 := by rw [h2]; simp [s1]
  have s3 : w3.heap.size = w.heap.size + 4 := by rw [h3]; simp [s2]
  have f2 : Fr (fun _ => False) w1 w2 := by rw [h2]; exact (Fr.refl _ _).alloc _
  have f3 : Fr (fun _ => False) w2 w3 := by rw [h3]; exact (Fr.refl _ _).alloc _
  have f4 : Fr (fun _ => False) w3 w4 := by rw [h4]; exact (Fr.refl _ _).alloc _
  have f1 : Fr (fun _ => False) w w1 := by rw [h1]; exact ((Fr.refl _ _).alloc _).alloc _
  have fa : Fr (fun _ => False) w w4 := ((f1.trans f2).trans f3).trans f4
  have r1 : Rdr w1 (w.heap.size + 1) w.heap.size al 0 al.length := by rw [h1]; exact rdr_new al w (by omega)
  have e81 : w3.heap[w.heap.size + 3]? = some (.cells #[.slice a0 al.length c0, .int .i64 0] 81 (0, 0)) := by rw [h3, ← s2]; exact heap_alloc_new w2 _
  have x2 : w2.ownsRow 0 47 1 (.slice (some ⟨w.heap.size + 2, 0, none⟩) 1 1) 1 [.pointer (some ⟨w.heap.size + 1, 0, none⟩)] := by
    have := World.ownsRow_lit (base := 0) (e := 47) (size := 1) w1 #[.pointer (some ⟨w.heap.size + 1, 0, none⟩)] 1 (Nat.zero_le _) (by simp [maxLen]) rfl
    rw [s1] at this
    rw [h2]; exact this
  have y4 : w4.ownsRow 0 79 1 (.slice (some ⟨w.heap.size + 4, 0, none⟩) 1 1) 1 [.pointer (some ⟨w.heap.size + 3, 0, none⟩)] := by
    have := World.ownsRow_lit (base := 0) (e := 79) (size := 1) w3 #[.pointer (some ⟨w.heap.size + 3, 0, none⟩)] 1 (Nat.zero_le _) (by simp [maxLen]) rfl
    rw [s3] at this
    rw [h4]; exact this
  have f24 := f3.trans f4
  refine ⟨⟨fun l hm => ?_, fun l hm => ?_, by simp, by simp, fa.below (Nat.le_refl _) (fun _ h => h.elim), fun l hm => ?_, hr⟩, ownsRow_heap x2 (fun k hk => f24.block k (x2.lt k hk).2 (fun h => h)), y4, (fun k hk => by simp only [Value.ownBlock, Option.some.injEq] at hk; omega), (fun k hk => by simp only [Value.ownBlock, Option.some.injEq] at hk; omega)⟩
  · obtain rfl := List.mem_singleton.1 hm
    exact r1.keep (f2.trans f24) (fun h => h) (fun h => h)
  · obtain rfl := List.mem_singleton.1 hm
    simp only [List.take_length]
    exact ⟨f4.heap e81 (fun h => h), hr.keep fa (fun _ _ h => h), Nat.zero_le _, hl, hc⟩
  · obtain rfl := List.mem_singleton.1 hm
    simp only
    omega

end Go.Proofs.YtcmmjkkpjclfgaaDoor
