import Derived.Test.YtcmmjkkpjclfgaaDoorWT1
namespace Go.Proofs.YtcmmjkkpjclfgaaDoor
open Go.RowKit

theorem Tryd.info47 : (Tryd.prog.info? 47).map (fun i => (i.zero, i.size, i.bytes)) = some (some (.pointer none), 1, 8) := by kernel_rfl
theorem Tryd.info79 : (Tryd.prog.info? 79).map (fun i => (i.zero, i.size, i.bytes)) = some (some (.pointer none), 1, 8) := by kernel_rfl
theorem u78 : Tryd.prog.underlying 78 = some (.slice 47) := by kernel_rfl
theorem u82 : Tryd.prog.underlying 82 = some (.slice 79) := by kernel_rfl
/-- the two rows of Readers, and what they lead to -/
structure Stk (w wr : World) (rb : Nat) (al : List UInt8) (a0 : Option Addr) (c0 : Nat) (xa ya : Option Addr) (xc yc : Nat) (L : List Lv) : Prop where
  lv : Lvs w wr rb al a0 c0 L
  x : wr.ownsRow 0 47 1 (.slice xa L.length xc) L.length (L.map Lv.gp)
  y : wr.ownsRow 0 79 1 (.slice ya L.length yc) L.length (L.map Lv.hp)
  xlo : ∀ k, (Value.slice xa L.length xc).ownBlock = some k → w.heap.size ≤ k
  ylo : ∀ k, (Value.slice ya L.length yc).ownBlock = some k → w.heap.size ≤ k
section
variable {w wr w2 : World} {rb : Nat} {al : List UInt8} {a0 : Option Addr} {c0 : Nat} {xa ya : Option Addr} {xc yc : Nat} {L L0 : List Lv} {t : Lv}
theorem Stk.quiet (h : Stk w wr rb al a0 c0 xa ya xc yc L) (f : Fr (fun _ => False) wr w2) : Stk w w2 rb al a0 c0 xa ya xc yc L :=
  ⟨h.lv.quiet f, ownsRow_heap h.x (fun k hk => f.block k (h.x.lt k hk).2 (fun h => h)), ownsRow_heap h.y (fun k hk => f.block k (h.y.lt k hk).2 (fun h => h)), h.xlo, h.ylo⟩
theorem len_upd (t' : Lv) : (L0 ++ [t]).length = (L0 ++ [t']).length := by simp
theorem Stk.stepG {p' : Nat} (h : Stk w wr rb al a0 c0 xa ya xc yc (L0 ++ [t])) (f : Fr (fun k => k = t.g) wr w2) (r : Rdr w2 t.g rb al p' t.q) : Stk w w2 rb al a0 c0 xa ya xc yc (L0 ++ [{ t with p := p' }]) := by
  have hx := ownsRow_heap (w' := w2) h.x (fun k hk => f.block k (h.x.lt k hk).2 (by
    obtain ⟨cur, fz, hc⟩ := ownT h.x k hk
    exact obj_ne hc (h.lv.rd t mem_top).obj (by decide)))
  have hy := ownsRow_heap (w' := w2) h.y (fun k hk => f.block k (h.y.lt k hk).2 (by
    obtain ⟨cur, fz, hc⟩ := ownT h.y k hk
    exact obj_ne hc (h.lv.rd t mem_top).obj (by decide)))
  have e1 : (L0 ++ [{ t with p := p' }]).map Lv.gp = (L0 ++ [t]).map Lv.gp := by simp [Lv.gp]
  have e2 : (L0 ++ [{ t with p := p' }]).map Lv.hp = (L0 ++ [t]).map Lv.hp := by simp [Lv.hp]
  have e3 : (L0 ++ [{ t with p := p' }]).length = (L0 ++ [t]).length := by simp
  exact ⟨h.lv.stepG f r, by rw [e1, e3]; exact hx, by rw [e2, e3]; exact hy, by rw [e3]; exact h.xlo, by rw [e3]; exact h.ylo⟩
theorem Stk.stepH {r' : Nat} (h : Stk w wr rb al a0 c0 xa ya xc yc (L0 ++ [t])) (f : Fr (fun k => k = t.h) wr w2) (r : RefR w2 t.h a0 c0 (al.take t.q) r') : Stk w w2 rb al a0 c0 xa ya xc yc (L0 ++ [{ t with r := r' }]) := by
  have hx := ownsRow_heap (w' := w2) h.x (fun k hk => f.block k (h.x.lt k hk).2 (by
    obtain ⟨cur, fz, hc⟩ := ownT h.x k hk
    exact obj_ne hc (h.lv.rf t mem_top).obj (by decide)))
  have hy := ownsRow_heap (w' := w2) h.y (fun k hk => f.block k (h.y.lt k hk).2 (by
    obtain ⟨cur, fz, hc⟩ := ownT h.y k hk
    exact obj_ne hc (h.lv.rf t mem_top).obj (by decide)))
  have e1 : (L0 ++ [{ t with r := r' }]).map Lv.gp = (L0 ++ [t]).map Lv.gp := by simp [Lv.gp]
  have e2 : (L0 ++ [{ t with r := r' }]).map Lv.hp = (L0 ++ [t]).map Lv.hp := by simp [Lv.hp]
  have e3 : (L0 ++ [{ t with r := r' }]).length = (L0 ++ [t]).length := by simp
  exact ⟨h.lv.stepH f r, by rw [e1, e3]; exact hx, by rw [e2, e3]; exact hy, by rw [e3]; exact h.xlo, by rw [e3]; exact h.ylo⟩
theorem Stk.pop (h : Stk w wr rb al a0 c0 xa ya xc yc (L0 ++ [t])) : Stk w wr rb al a0 c0 xa ya xc yc L0 := by
  have e : (L0 ++ [t]).length = L0.length + 1 := by simp
  have hx := h.x
  have hy := h.y
  rw [e, List.map_append] at hx hy
  refine ⟨h.lv.pop, ownsRow_pop hx, ownsRow_pop hy, fun k hk => h.xlo k (by rw [e]; cases xa with | none => cases hk | some x => exact hk), fun k hk => h.ylo k (by rw [e]; cases ya with | none => cases hk | some x => exact hk)⟩
/-- where the tops lie -/
theorem Stk.top (h : Stk w wr rb al a0 c0 xa ya xc yc (L0 ++ [t])) : ∃ kx ky, xa = some ⟨kx, 0, none⟩ ∧ ya = some ⟨ky, 0, none⟩ ∧ wr.cell? ⟨kx, L0.length, none⟩ = some t.gp ∧ wr.cell? ⟨ky, L0.length, none⟩ = some t.hp := by
  have hx := h.x
  have hy := h.y
  have e : (L0 ++ [t]).length = L0.length + 1 := by simp
  rcases hx.2 with ⟨_, e2⟩ | ⟨kx, cap, cur, e1, _⟩
  · omega
  · rcases hy.2 with ⟨_, e2⟩ | ⟨ky, cap', cur', e1', _⟩
    · omega
    · simp only [Value.slice.injEq] at e1 e1'
      obtain ⟨rfl, _, rfl⟩ := e1
      obtain ⟨rfl, _, rfl⟩ := e1'
      refine ⟨kx, ky, rfl, rfl, ?_, ?_⟩
      · rw [hx.cellAt _ (by omega)]; simp
      · rw [hy.cellAt _ (by omega)]; simp
end
end Go.Proofs.YtcmmjkkpjclfgaaDoor
