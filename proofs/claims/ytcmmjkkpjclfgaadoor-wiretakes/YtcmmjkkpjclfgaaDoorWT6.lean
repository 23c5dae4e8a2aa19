import Derived.Test.YtcmmjkkpjclfgaaDoorWT5
namespace Go.Proofs.YtcmmjkkpjclfgaaDoor
open Go.RowKit
theorem und78 : Tryd.prog.underlying 78 = some (.slice 47) := by kernel_rfl
theorem und82 : Tryd.prog.underlying 82 = some (.slice 79) := by kernel_rfl
theorem one_ptr (x : Option Addr) : ∀ u ∈ [Value.pointer x], u.oneCell' = true := by intro u hu; simp at hu; subst hu; rfl
theorem ask_new (w : World) (a b : Value) (e : TypeId) : (w.alloc (.cells #[a, b] e)).cell? ⟨w.heap.size, 0, none⟩ = some a ∧ (w.alloc (.cells #[a, b] e)).cell? ⟨w.heap.size, 1, none⟩ = some b := by
  have hn := heap_alloc_new w (.cells #[a, b] e)
  constructor
  · unfold World.cell?
    simp only [hn]
    rfl
  · unfold World.cell?
    simp only [hn]
    rfl
section
variable {w w6 w7 w8 : World} {rb : Nat} {al : List UInt8} {a0 : Option Addr} {c0 : Nat} {xa ya : Option Addr} {xc yc n : Nat} {L : List Lv} {t : Lv} {o1 o2 : Obj} {a2 a3 : Option Addr} {c2 c3 : Nat}
theorem fr_grown1 {v : Value} (q : (w6.alloc o1).grownBy w7 v.ownBlock) : Fr (fun k => some k = v.ownBlock) w6 w7 :=
  ((Fr.refl _ w6).alloc o1).grown q (fun _ hk _ => hk.symm)
theorem Stk.y7 (h : Stk w w6 rb al a0 c0 xa ya xc yc L) (q : (w6.alloc o1).grownBy w7 (Value.slice xa L.length xc).ownBlock) : w7.ownsRow 0 79 1 (.slice ya L.length yc) L.length (L.map Lv.hp) :=
  ownsRow_heap h.y (fun k hk => (fr_grown1 q).block k (h.y.lt k hk).2 (fun e => by
    obtain ⟨cur, fz, hc⟩ := ownT h.y k hk
    obtain ⟨cur', fz', hc'⟩ := ownT h.x k e.symm
    exact obj_ne hc hc' (by decide) rfl))
theorem Ev.app2 (h : Ev w w6 rb al a0 c0 xa ya xc yc L) (HL : Lvs w w6 rb al a0 c0 (L ++ [t])) (e : t.r = t.p)
    (q1 : w7.ownsRow 0 47 1 (.slice a2 (L.length + 1) c2) (L.length + 1) (L.map Lv.gp ++ [t.gp])) (q2 : (w6.alloc o1).grownBy w7 (Value.slice xa L.length xc).ownBlock) (q3 : (Value.slice a2 (L.length + 1) c2).ownBlock = (Value.slice xa L.length xc).ownBlock ∨ (Value.slice a2 (L.length + 1) c2).ownBlock = some (w6.alloc o1).heap.size)
    (p1 : w8.ownsRow 0 79 1 (.slice a3 (L.length + 1) c3) (L.length + 1) (L.map Lv.hp ++ [t.hp])) (p2 : (w7.alloc o2).grownBy w8 (Value.slice ya L.length yc).ownBlock) (p3 : (Value.slice a3 (L.length + 1) c3).ownBlock = (Value.slice ya L.length yc).ownBlock ∨ (Value.slice a3 (L.length + 1) c3).ownBlock = some (w7.alloc o2).heap.size) :
    Ev w w8 rb al a0 c0 a2 a3 c2 c3 (L ++ [t]) := by
  have y7 := h.1.y7 q2
  have f7 := fr_grown1 q2
  have f8 := fr_grown1 p2
  have L7 := HL.app (by simp) (.inl rfl) h.1.x h.1.xlo f7
  have L8 := L7.app (by simp) (.inr rfl) y7 h.1.ylo f8
  have el : (L ++ [t]).length = L.length + 1 := by simp
  have x8 : w8.ownsRow 0 47 1 (.slice a2 (L.length + 1) c2) (L.length + 1) (L.map Lv.gp ++ [t.gp]) :=
    ownsRow_heap q1 (fun k hk => f8.block k (q1.lt k hk).2 (fun e => by
      obtain ⟨cur, fz, hc⟩ := ownT q1 k hk
      obtain ⟨cur', fz', hc'⟩ := ownT y7 k e.symm
      exact obj_ne hc hc' (by decide) rfl))
  have s6 := h.1.lv.be.size
  have s7 := f7.size
  refine ⟨⟨L8, by rw [el, List.map_append]; exact x8, by rw [el, List.map_append]; exact p1, ?_, ?_⟩, ?_⟩
  · intro k hk
    rw [el] at hk
    rcases q3 with q3 | q3
    · exact h.1.xlo k (q3.symm.trans hk)
    · have := q3.symm.trans hk
      simp at this
      omega
  · intro k hk
    rw [el] at hk
    rcases p3 with p3 | p3
    · exact h.1.ylo k (p3.symm.trans hk)
    · have := p3.symm.trans hk
      simp at this
      omega
  · intro l hl
    rcases List.mem_append.1 hl with hl | hl
    · exact h.2 l hl
    · obtain rfl := List.mem_singleton.1 hl
      exact e
end
end Go.Proofs.YtcmmjkkpjclfgaaDoor
