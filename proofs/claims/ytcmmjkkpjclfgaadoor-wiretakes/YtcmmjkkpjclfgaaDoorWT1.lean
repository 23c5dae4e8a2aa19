import Derived.Test.YtcmmjkkpjclfgaaDoorRs
import Derived.Test.YtcmmjkkpjclfgaaDoorRx
namespace Go.Proofs.YtcmmjkkpjclfgaaDoor
open Go.RowKit

theorem obj_ne {w : World} {k k' : Nat} {c c' : Array Value} {e e' : TypeId} {fz fz' : Nat × Nat} (h : w.heap[k]? = some (.cells c e fz)) (h' : w.heap[k']? = some (.cells c' e' fz')) (hne : e ≠ e') : k ≠ k' := by
  rintro rfl
  rw [h] at h'
  simp only [Option.some.injEq, Obj.cells.injEq] at h'
  exact hne h'.2.1
theorem ownT {w : World} {base e size n : Nat} {v : Value} {xs : List Value} (h : w.ownsRow base e size v n xs) : ∀ k, v.ownBlock = some k → ∃ cur fz, w.heap[k]? = some (.cells cur e fz) := by
  intro k hk
  rcases h.2 with ⟨rfl, _⟩ | ⟨g, cap, cur, rfl, _, hg, _⟩
  · cases hk
  · cases hk; exact ⟨cur, _, hg⟩
theorem ownsRow_pop {w : World} {base e : Nat} {a : Option Addr} {n c : Nat} {xs : List Value} {u : Value} (h : w.ownsRow base e 1 (.slice a (n + 1) c) (n + 1) (xs ++ [u])) : w.ownsRow base e 1 (.slice a n c) n xs := by
  have hl : xs.length = n := by have := h.1; simp at this; omega
  refine ⟨by omega, ?_⟩
  rcases h.2 with ⟨_, e2⟩ | ⟨g, cap, cur, e1, h1, h2, h3, h4, h5, h6⟩
  · omega
  · simp only [Value.slice.injEq] at e1
    obtain ⟨rfl, _, rfl⟩ := e1
    refine .inr ⟨g, c, cur, rfl, h1, h2, by omega, h4, h5, ?_⟩
    have : (cur.toList.take ((n + 1) * 1)).take n = xs := by rw [h6, ← hl]; simp
    rw [List.take_take, Nat.min_eq_left (by omega)] at this
    rw [Nat.mul_one]
    exact this

/-- a level: the Reader at g (at p), the document's at h (at r), up to q -/
structure Lv where
  g : Nat
  h : Nat
  p : Nat
  r : Nat
  q : Nat
def Lv.gp (l : Lv) : Value := .pointer (some ⟨l.g, 0, none⟩)
def Lv.hp (l : Lv) : Value := .pointer (some ⟨l.h, 0, none⟩)
/-- all levels stand -/
structure Lvs (w wr : World) (rb : Nat) (al : List UInt8) (a0 : Option Addr) (c0 : Nat) (L : List Lv) : Prop where
  rd : ∀ l ∈ L, Rdr wr l.g rb al l.p l.q
  rf : ∀ l ∈ L, RefR wr l.h a0 c0 (al.take l.q) l.r
  dg : (L.map Lv.g).Nodup
  dh : (L.map Lv.h).Nodup
  be : Below w.heap.size w wr
  lo : ∀ l ∈ L, w.heap.size ≤ l.g ∧ w.heap.size ≤ l.h
  row : Row w a0 (B8 al)
theorem Row.below3 {w w' : World} {a : Option Addr} {vs : List Value} (h : Row w a vs) (b : Below w.heap.size w w') : Row w' a vs := by
  rcases h with h | ⟨x, rfl, h⟩
  · exact .inl h
  · exact .inr ⟨x, rfl, fun j u hj => (b.cell (World.block_lt_of_cell? _ _ (h j u hj))).trans (h j u hj)⟩
theorem Lvs.keep {S : Nat → Prop} {w wr w2 : World} {rb : Nat} {al : List UInt8} {a0 : Option Addr} {c0 : Nat} {L : List Lv} (h : Lvs w wr rb al a0 c0 L) (f : Fr S wr w2) (hS : ∀ k, S k → w.heap.size ≤ k) (hr : ¬ S rb) (hg : ∀ l ∈ L, ¬ S l.g ∧ ¬ S l.h) : Lvs w w2 rb al a0 c0 L := by
  have be := h.be.trans (f.below h.be.size hS)
  exact ⟨fun l hl => (h.rd l hl).keep f (hg l hl).1 hr, fun l hl => ⟨f.heap (h.rf l hl).obj (hg l hl).2, take_row2 (h.row.below3 be) _, (h.rf l hl).pq, (h.rf l hl).len, (h.rf l hl).cap⟩, h.dg, h.dh, be, h.lo, h.row⟩
theorem Lvs.quiet {w wr w2 : World} {rb : Nat} {al : List UInt8} {a0 : Option Addr} {c0 : Nat} {L : List Lv} (h : Lvs w wr rb al a0 c0 L) (f : Fr (fun _ => False) wr w2) : Lvs w w2 rb al a0 c0 L :=
  h.keep f (fun _ h => h.elim) (fun h => h) (fun _ _ => ⟨fun h => h, fun h => h⟩)
theorem Lvs.off {w wr : World} {rb : Nat} {al : List UInt8} {a0 : Option Addr} {c0 : Nat} {L : List Lv} (h : Lvs w wr rb al a0 c0 L) {l : Lv} (hl : l ∈ L) : Off wr l.h a0 (al.take l.q) := fun _ f =>
  take_row2 (h.row.below3 (h.be.trans (f.below h.be.size (fun k hk => by subst hk; exact (h.lo l hl).2)))) _
/-- the row of levels, written elsewhere -/
theorem Lvs.app {w wr w2 : World} {rb : Nat} {al : List UInt8} {a0 : Option Addr} {c0 : Nat} {L : List Lv} {e n : Nat} {v : Value} {xs : List Value} (h : Lvs w wr rb al a0 c0 L) (hne : L ≠ []) (he : e = 47 ∨ e = 79) (ho : wr.ownsRow 0 e 1 v n xs) (hlo : ∀ k, v.ownBlock = some k → w.heap.size ≤ k) (f : Fr (fun k => some k = v.ownBlock) wr w2) : Lvs w w2 rb al a0 c0 L := by
  refine h.keep f (fun k hk => hlo k hk.symm) ?_ ?_
  · intro hk
    obtain ⟨cur, fz, hc⟩ := ownT ho _ hk.symm
    obtain ⟨l, hl⟩ := List.exists_mem_of_ne_nil L hne
    exact obj_ne hc (h.rd l hl).row (by rcases he with rfl | rfl <;> decide) rfl
  · intro l hl
    refine ⟨fun hk => ?_, fun hk => ?_⟩
    · obtain ⟨cur, fz, hc⟩ := ownT ho _ hk.symm
      exact obj_ne hc (h.rd l hl).obj (by rcases he with rfl | rfl <;> decide) rfl
    · obtain ⟨cur, fz, hc⟩ := ownT ho _ hk.symm
      exact obj_ne hc (h.rf l hl).obj (by rcases he with rfl | rfl <;> decide) rfl
theorem mem_top {L0 : List Lv} {t : Lv} : t ∈ L0 ++ [t] := by simp
theorem nodup_ne {L0 : List Lv} {t l : Lv} {f : Lv → Nat} (h : ((L0 ++ [t]).map f).Nodup) (hl : l ∈ L0) : f l ≠ f t := by
  rw [List.map_append, List.nodup_append] at h
  exact h.2.2 (f l) (List.mem_map.2 ⟨l, hl, rfl⟩) (f t) (by simp)
/-- the top's Reader has gone on -/
theorem Lvs.stepG {w wr w2 : World} {rb : Nat} {al : List UInt8} {a0 : Option Addr} {c0 : Nat} {L0 : List Lv} {t : Lv} {p' : Nat} (h : Lvs w wr rb al a0 c0 (L0 ++ [t])) (f : Fr (fun k => k = t.g) wr w2) (r : Rdr w2 t.g rb al p' t.q) : Lvs w w2 rb al a0 c0 (L0 ++ [{ t with p := p' }]) := by
  have be := h.be.trans (f.below h.be.size (fun k hk => by subst hk; exact (h.lo t mem_top).1))
  have ht := h.rd t mem_top
  refine ⟨fun l hl => ?_, fun l hl => ?_, by simpa using h.dg, by simpa using h.dh, be, fun l hl => ?_, h.row⟩
  · rcases List.mem_append.1 hl with hl | hl
    · exact (h.rd l (List.mem_append_left _ hl)).keep f (nodup_ne h.dg hl) ht.ne
    · obtain rfl : l = { t with p := p' } := by simpa using hl
      exact r
  · rcases List.mem_append.1 hl with hl | hl
    · have hr := h.rf l (List.mem_append_left _ hl)
      exact ⟨f.heap hr.obj (obj_ne hr.obj ht.obj (by decide)), take_row2 (h.row.below3 be) _, hr.pq, hr.len, hr.cap⟩
    · obtain rfl : l = { t with p := p' } := by simpa using hl
      have hr := h.rf t mem_top
      exact ⟨f.heap hr.obj (obj_ne hr.obj ht.obj (by decide)), take_row2 (h.row.below3 be) _, hr.pq, hr.len, hr.cap⟩
  · rcases List.mem_append.1 hl with hl | hl
    · exact h.lo l (List.mem_append_left _ hl)
    · obtain rfl : l = { t with p := p' } := by simpa using hl
      exact h.lo t mem_top
/-- the document's top has gone on -/
theorem Lvs.stepH {w wr w2 : World} {rb : Nat} {al : List UInt8} {a0 : Option Addr} {c0 : Nat} {L0 : List Lv} {t : Lv} {r' : Nat} (h : Lvs w wr rb al a0 c0 (L0 ++ [t])) (f : Fr (fun k => k = t.h) wr w2) (r : RefR w2 t.h a0 c0 (al.take t.q) r') : Lvs w w2 rb al a0 c0 (L0 ++ [{ t with r := r' }]) := by
  have be := h.be.trans (f.below h.be.size (fun k hk => by subst hk; exact (h.lo t mem_top).2))
  have ht := h.rf t mem_top
  have hrb : rb ≠ t.h := obj_ne (h.rd t mem_top).row ht.obj (by decide)
  refine ⟨fun l hl => ?_, fun l hl => ?_, by simpa using h.dg, by simpa using h.dh, be, fun l hl => ?_, h.row⟩
  · rcases List.mem_append.1 hl with hl | hl
    · have hr := h.rd l (List.mem_append_left _ hl)
      exact hr.keep f (obj_ne hr.obj ht.obj (by decide)) hrb
    · obtain rfl : l = { t with r := r' } := by simpa using hl
      have hr := h.rd t mem_top
      exact hr.keep f (obj_ne hr.obj ht.obj (by decide)) hrb
  · rcases List.mem_append.1 hl with hl | hl
    · have hr := h.rf l (List.mem_append_left _ hl)
      exact ⟨f.heap hr.obj (nodup_ne h.dh hl), take_row2 (h.row.below3 be) _, hr.pq, hr.len, hr.cap⟩
    · obtain rfl : l = { t with r := r' } := by simpa using hl
      exact r
  · rcases List.mem_append.1 hl with hl | hl
    · exact h.lo l (List.mem_append_left _ hl)
    · obtain rfl : l = { t with r := r' } := by simpa using hl
      exact h.lo t mem_top
/-- a level more -/
theorem Lvs.push {w wr : World} {rb : Nat} {al : List UInt8} {a0 : Option Addr} {c0 : Nat} {L : List Lv} {t : Lv} (h : Lvs w wr rb al a0 c0 L) (hg : Rdr wr t.g rb al t.p t.q) (hh : RefR wr t.h a0 c0 (al.take t.q) t.r) (ng : ∀ l ∈ L, l.g ≠ t.g) (nh : ∀ l ∈ L, l.h ≠ t.h) (lo : w.heap.size ≤ t.g ∧ w.heap.size ≤ t.h) : Lvs w wr rb al a0 c0 (L ++ [t]) := by
  refine ⟨fun l hl => ?_, fun l hl => ?_, ?_, ?_, h.be, fun l hl => ?_, h.row⟩
  · rcases List.mem_append.1 hl with hl | hl
    · exact h.rd l hl
    · obtain rfl : l = t := by simpa using hl
      exact hg
  · rcases List.mem_append.1 hl with hl | hl
    · exact h.rf l hl
    · obtain rfl : l = t := by simpa using hl
      exact hh
  · rw [List.map_append, List.nodup_append]
    refine ⟨h.dg, by simp, fun a ha b hb => ?_⟩
    obtain ⟨l, hl, rfl⟩ := List.mem_map.1 ha
    obtain rfl : b = t.g := by simpa using hb
    exact ng l hl
  · rw [List.map_append, List.nodup_append]
    refine ⟨h.dh, by simp, fun a ha b hb => ?_⟩
    obtain ⟨l, hl, rfl⟩ := List.mem_map.1 ha
    obtain rfl : b = t.h := by simpa using hb
    exact nh l hl
  · rcases List.mem_append.1 hl with hl | hl
    · exact h.lo l hl
    · obtain rfl : l = t := by simpa using hl
      exact lo
theorem Lvs.pop {w wr : World} {rb : Nat} {al : List UInt8} {a0 : Option Addr} {c0 : Nat} {L : List Lv} {t : Lv} (h : Lvs w wr rb al a0 c0 (L ++ [t])) : Lvs w wr rb al a0 c0 L := by
  refine ⟨fun l hl => h.rd l (List.mem_append_left _ hl), fun l hl => h.rf l (List.mem_append_left _ hl), ?_, ?_, h.be, fun l hl => h.lo l (List.mem_append_left _ hl), h.row⟩
  · have := h.dg; rw [List.map_append, List.nodup_append] at this; exact this.1
  · have := h.dh; rw [List.map_append, List.nodup_append] at this; exact this.1
end Go.Proofs.YtcmmjkkpjclfgaaDoor
