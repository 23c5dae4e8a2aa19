import Derived.Test.YtcmmjkkpjclfgaaDoorText
namespace Go.Proofs.YtcmmjkkpjclfgaaDoor
open Go.RowKit

theorem Wraps.trans {w : World} : ∀ {ps qs : List Int} {v u t : Value}, Wraps w ps v u → Wraps w qs u t → Wraps w (ps ++ qs) v t
  | [], _, _, _, _, h, k => by obtain rfl := h; exact k
  | _ :: _, _, _, _, _, ⟨g, x, h1, h2, h3⟩, k => ⟨g, x, h1, h2, Wraps.trans h3 k⟩
theorem Wraps.fr {w w' : World} {ps : List Int} {v u : Value} (h : Wraps w ps v u) (f : Fr (fun _ => False) w w') : Wraps w' ps v u := h.keep (fun k _ hk => f.block k (heap_lt hk) (fun h => h))
theorem own_row3 {w : World} {a : Option Addr} {n c : Nat} {xs : List Int} (ho : w.ownsRow 0 3 1 (.slice a n c) n (I64 xs)) : Row w a (I64 xs) := by
  rcases ho.2 with ⟨h, h1⟩ | ⟨g, cap, cur, h, _⟩
  · cases h
    have := ho.1
    exact .inl ⟨rfl, List.eq_nil_of_length_eq_zero (by omega)⟩
  · have e' := h
    simp only [Value.slice.injEq] at e'
    exact .inr ⟨_, e'.1, ho.cells (g := g) (by rw [h]; rfl)⟩
theorem new_row3 (w : World) (xs : List Int) : Row (w.alloc (.cells (I64 xs).toArray 3)) (some ⟨w.heap.size, 0, none⟩) (I64 xs) := by
  refine .inr ⟨_, rfl, fun j u hj => ?_⟩
  have h' := heap_alloc_new w (.cells (I64 xs).toArray 3)
  have hc : (w.alloc (.cells (I64 xs).toArray 3)).cell? ⟨w.heap.size, 0 + j, none⟩ = some u := by
    simp only [World.cell?, h']
    simpa using hj
  by_cases hz : j = 0
  · subst hz; simpa [Addr.add] using hc
  · simpa [Addr.add, hz] using hc

set_option maxRecDepth 100000 in
set_option maxHeartbeats 1000000 in
theorem tells_any (w : World) (hG : Glob w) :
    Calls Tryd.prog 16 #[] w fun e w' => e = .returned (.bool true) ∧ Fr (fun _ => False) w w' := by
  have HG : Hid (Glob w) := hG
  clear hG
  go_enter Tryd.func16, Tryd.ntmps16
  go_wp2_with fail
  refine (at_any [3] 29 (.int .i64 9) (some ⟨w.heap.size, 0, none⟩) 1 (w.alloc (.cells (I64 [3]).toArray 3)) (new_row3 w [3]) (by simp)).mono ?_
  rintro e w1 ⟨v1, rfl, h1, f1⟩
  obtain ⟨T1, x1, rfl⟩ := h1.iface
  have S1 : Hid (Wraps w1 [3] (.iface T1 x1) (.iface 29 (.int .i64 9)) ∧ Fr (fun _ => False) w w1) := ⟨h1, ((Fr.refl _ w).alloc _).trans f1⟩
  clear h1 f1
  go_wp2_with fail
  refine (at_any [1, 2] T1 x1 (some ⟨w1.heap.size, 0, none⟩) 2 (w1.alloc (.cells (I64 [1, 2]).toArray 3)) (new_row3 w1 [1, 2]) (by simp)).mono ?_
  rintro e w2 ⟨v2, rfl, h2, f2⟩
  have S2 : Hid (Wraps w2 [1, 2, 3] v2 (.iface 29 (.int .i64 9)) ∧ Fr (fun _ => False) w w2) := by
    have f : Fr (fun _ => False) w1 w2 := ((Fr.refl _ w1).alloc _).trans f2
    exact ⟨h2.trans (S1.out.1.fr f), S1.out.2.trans f⟩
  obtain ⟨T2, x2, rfl⟩ := h2.iface
  clear h2 f2 S1
  go_wp2_with fail
  refine (kind_any [1, 2, 3] (.iface T2 x2) 9 w2 (HG.out.keep S2.out.2 (fun h => h)) S2.out.1.err).mono ?_
  rintro e w3 ⟨rfl, f3⟩
  have S3 : Hid (Wraps w3 [1, 2, 3] (.iface T2 x2) (.iface 29 (.int .i64 9)) ∧ Fr (fun _ => False) w w3) := ⟨S2.out.1.fr f3, S2.out.2.trans f3⟩
  clear f3 S2
  go_wp2_with fail
  refine (path_any (noPlace_errno 9) [1, 2, 3] (.iface T2 x2) w3 (HG.out.keep S3.out.2 (fun h => h)) S3.out.1 (by simp)).mono ?_
  rintro e w4 ⟨a4, c4, rfl, o4, f4, _⟩
  have S4 : Hid (Wraps w4 [1, 2, 3] (.iface T2 x2) (.iface 29 (.int .i64 9)) ∧ Fr (fun _ => False) w w4 ∧ Row w4 a4 (I64 [1, 2, 3])) := ⟨S3.out.1.fr f4, S3.out.2.trans f4, own_row3 o4⟩
  clear f4 S3 o4
  go_wp2_with fail
  refine (same_any a4 (some ⟨w4.heap.size, 0, none⟩) c4 3 [1, 2, 3] [1, 2, 3] (w4.alloc (.cells (I64 [1, 2, 3]).toArray 3)) (S4.out.2.2.keep ((Fr.refl (fun _ => False) _).alloc _) (fun _ _ h => h)) (new_row3 w4 [1, 2, 3]) (by simp) (by simp)).mono ?_
  rintro e w5 ⟨rfl, j5, h5⟩
  have S5 : Hid (Wraps w5 [1, 2, 3] (.iface T2 x2) (.iface 29 (.int .i64 9)) ∧ Fr (fun _ => False) w w5) := by
    have f : Fr (fun _ => False) w4 w5 := by rw [h5]; exact Fr.trans ((Fr.refl _ _).alloc _) (Fr.ofBelow ⟨rfl, rfl, rfl, Nat.le_refl _, fun _ _ => rfl⟩)
    exact ⟨S4.out.1.fr f, S4.out.2.1.trans f⟩
  clear h5 S4
  rw [show decide (([1, 2, 3] : List Int) = [1, 2, 3]) = true from by decide]
  go_wp2_with fail
  refine (text_123 (.iface T2 x2) w5 (HG.out.keep S5.out.2 (fun h => h)) S5.out.1).mono ?_
  rintro e w6 ⟨rfl, f6⟩
  have S6 : Hid (Fr (fun _ => False) w w6) := S5.out.2.trans f6
  clear f6 S5
  go_wp2
  go_ret
  exact ⟨rfl, S6⟩
end Go.Proofs.YtcmmjkkpjclfgaaDoor
