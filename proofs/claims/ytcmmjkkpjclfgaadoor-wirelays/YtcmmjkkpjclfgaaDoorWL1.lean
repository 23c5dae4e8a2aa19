import Derived.Test.YtcmmjkkpjclfgaaDoorTk3
import Derived.Test.YtcmmjkkpjclfgaaDoorNilW
import Derived.Test.YtcmmjkkpjclfgaaDoorMade
namespace Go.Proofs.YtcmmjkkpjclfgaaDoor
open Go.RowKit

/-- all bytes of the first m Things -/
def catT (ts : List Th) : Nat → List UInt8
  | 0 => []
  | m + 1 => catT ts m ++ (match ts[m]? with | some t => t.tb | none => [])
theorem catT_len (ts : List Th) : ∀ m, (catT ts m).length ≤ 50 * m
  | 0 => by simp [catT]
  | m + 1 => by
    have := catT_len ts m
    unfold catT
    rw [List.length_append]
    split
    · rename_i t _; have := t.tb_len; omega
    · simp; omega
theorem catT_succ {ts : List Th} {m : Nat} {t : Th} (h : ts[m]? = some t) : catT ts (m + 1) = catT ts m ++ t.tb := by simp [catT, h]
/-- what stands behind the first m -/
theorem catT_split (ts : List Th) (k : Nat) : ∀ m, m ≤ k → ∃ rest, catT ts k = catT ts m ++ rest := by
  intro m hm
  induction k with
  | zero => obtain rfl : m = 0 := by omega
            exact ⟨[], by simp⟩
  | succ k ih =>
    by_cases e : m = k + 1
    · subst e; exact ⟨[], by simp⟩
    · obtain ⟨rest, hr⟩ := ih (by omega)
      exact ⟨rest ++ (match ts[k]? with | some t => t.tb | none => []), by rw [catT, hr, List.append_assoc]⟩
theorem catT_left {ts : List Th} {k m : Nat} {t : Th} (h : ts[m]? = some t) (hm : m < k) : ∃ rest, leftOf (catT ts k) (catT ts m).length (catT ts k).length = t.tb ++ rest := by
  obtain ⟨rest, hr⟩ := catT_split ts k (m + 1) (by omega)
  refine ⟨rest, ?_⟩
  unfold leftOf
  rw [List.take_length, hr, catT_succ h, List.append_assoc, List.drop_left]
/-- the Things in memory: three cells each -/
def RowT (w : World) (a : Option Addr) (ts : List Th) : Prop :=
  ∀ m t, ts[m]? = some t → ∃ b o, a = some ⟨b, o, none⟩ ∧ w.cell? ⟨b, o + m * 3, none⟩ = some (.int .i64 t.k) ∧ w.cell? ⟨b, o + m * 3 + 1, none⟩ = some (.int .u64 (t.n : Int)) ∧ w.cell? ⟨b, o + m * 3 + 2, none⟩ = some (.slice t.a t.len t.cap)
theorem RowT.below {w w' : World} {a : Option Addr} {ts : List Th} (h : RowT w a ts) (f : Below w.heap.size w w') : RowT w' a ts := by
  intro m t hm
  obtain ⟨b, o, e, h0, h1, h2⟩ := h m t hm
  exact ⟨b, o, e, (f.cell (World.block_lt_of_cell? _ _ h0)).trans h0, (f.cell (World.block_lt_of_cell? _ _ h1)).trans h1, (f.cell (World.block_lt_of_cell? _ _ h2)).trans h2⟩
theorem Row.below2 {w w' : World} {a : Option Addr} {vs : List Value} (h : Row w a vs) (b : Below w.heap.size w w') : Row w' a vs := by
  rcases h with h | ⟨x, rfl, h⟩
  · exact .inl h
  · exact .inr ⟨x, rfl, fun j u hj => (b.cell (World.block_lt_of_cell? _ _ (h j u hj))).trans (h j u hj)⟩
theorem Th.Ok.below {w w' : World} {t : Th} (h : t.Ok w) (f : Below w.heap.size w w') : t.Ok w' := ⟨h.1, h.2.1.below2 f, h.2.2⟩
theorem none_any (w : World) : Calls Tryd.prog 27 #[] w fun e w' => e = .returned (.tuple #[.pointer none, .pointer none]) ∧ w = w' := by
  go_enter Tryd.func27, Tryd.ntmps27
  go_wp2
  go_ret2
  exact ⟨rfl, rfl⟩

theorem own_rowb {w : World} {a : Option Addr} {c : Nat} {xs : List UInt8} (h : w.ownsRow 0 5 1 (.slice a xs.length c) xs.length (B8 xs)) : Row w a (B8 xs) ∧ (a = none → c = 0) := by
  rcases h.2 with ⟨e, e2⟩ | ⟨g, cap, cur, e, _⟩
  · simp only [Value.slice.injEq] at e
    exact ⟨.inl ⟨e.1, by rw [List.eq_nil_of_length_eq_zero e2]; rfl⟩, fun _ => e.2.2⟩
  · have e' := e
    simp only [Value.slice.injEq] at e'
    exact ⟨.inr ⟨_, e'.1, h.cells (g := g) (by rw [e]; rfl)⟩, fun h => by rw [e'.1] at h; cases h⟩
/-- a Writer, and a row of the call's own that has the same bytes -/
structure WantSt (w wr : World) (N : Nat) (r : Option Nat) (cs bs : List UInt8) (a : Option Addr) (c : Nat) : Prop where
  wt : Wtr wr N r cs
  own : wr.ownsRow 0 5 1 (.slice a bs.length c) bs.length (B8 bs)
  be : Below w.heap.size w wr
  n0 : w.heap.size ≤ N
  r0 : ∀ k, r = some k → w.heap.size ≤ k
  ap : ∀ k, (Value.slice a bs.length c).ownBlock = some k → w.heap.size ≤ k ∧ k ≠ N ∧ r ≠ some k
theorem WantSt.lay {w wr w1 : World} {N : Nat} {r : Option Nat} {cs bs ds : List UInt8} {a : Option Addr} {c : Nat} (h : WantSt w wr N r cs bs a c) (hs : WStep wr w1 N r ds) : ∃ r1, WantSt w w1 N r1 ds bs a c := by
  obtain ⟨r1, t1, f1, x1⟩ := hs
  have hf : ∀ k, (k = N ∨ some k = r) → w.heap.size ≤ k := by
    rintro k (rfl | e)
    · exact h.n0
    · exact h.r0 k e.symm
  refine ⟨r1, t1, ownsRow_heap h.own (fun k hk => f1.block k (ownBlock_lt0 h.own k hk) ?_), h.be.trans (f1.below h.be.size hf), h.n0, fun k hk => ?_, fun k hk => ⟨(h.ap k hk).1, (h.ap k hk).2.1, ?_⟩⟩
  · rintro (e | e)
    · exact (h.ap k hk).2.1 e
    · exact (h.ap k hk).2.2 e.symm
  · rcases x1 with e | ⟨k', e, hk'⟩
    · exact h.r0 k (e ▸ hk)
    · rw [e] at hk; cases hk; have := h.be.size; omega
  · rcases x1 with e | ⟨k', e, hk'⟩
    · rw [e]; exact (h.ap k hk).2.2
    · rw [e]; intro e2; cases e2; have := ownBlock_lt0 h.own k hk; omega
theorem WantSt.app {w w1 w2 : World} {N : Nat} {r : Option Nat} {cs bs ds : List UInt8} {a a' : Option Addr} {c c' n : Nat} {vs : List Value} (h : WantSt w w1 N r cs bs a c) (hn : n = ds.length) (hv : vs = B8 ds) (ho : w2.ownsRow 0 5 1 (.slice a' n c') n vs)
    (f : Fr (fun k => some k = (Value.slice a bs.length c).ownBlock) w1 w2) (hw : (Value.slice a' n c').ownBlock = (Value.slice a bs.length c).ownBlock ∨ (Value.slice a' n c').ownBlock = some w1.heap.size) : WantSt w w2 N r cs ds a' c' := by
  subst hn
  subst hv
  refine ⟨h.wt.keep f (fun e => (h.ap N e.symm).2.1 rfl) (fun k hk e => (h.ap k e.symm).2.2 hk), ho, h.be.trans (f.below h.be.size (fun k e => (h.ap k e.symm).1)), h.n0, h.r0, fun k hk => ?_⟩
  rcases hw with e | e
  · exact h.ap k (e ▸ hk)
  · rw [e] at hk
    cases hk
    have := h.be.size
    have h1 := h.wt.lt
    exact ⟨this, by omega, fun e => by have := h1.2 _ e; omega⟩
end Go.Proofs.YtcmmjkkpjclfgaaDoor
