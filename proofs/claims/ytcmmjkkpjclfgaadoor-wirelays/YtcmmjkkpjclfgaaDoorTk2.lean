import Derived.Test.YtcmmjkkpjclfgaaDoorTk
namespace Go.Proofs.YtcmmjkkpjclfgaaDoor
open Go.RowKit

theorem newB_conv {w w' : World} {a : Option Addr} {c : Nat} {xs : List UInt8} (h : NewB w w' a c xs) : (convert 55 9 (.slice a xs.length c)).run Tryd.prog w' = .ok (.string ⟨xs.toArray⟩) w' :=
  conv_str xs a c w' h.row.1 h.row.2
theorem row_conv {w : World} {k : Nat} {xs : List UInt8} (h : w.heap[k]? = some (rowObj xs)) : (convert 55 9 (.slice (some ⟨k, 0, none⟩) xs.length xs.length)).run Tryd.prog w = .ok (.string ⟨xs.toArray⟩) w :=
  conv_str xs _ _ w (rowObj_row h) (fun h => by cases h)
/-- few, called in a region that draws: its row, and one that lies already, read as strings behind it -/
theorem few_in (t : Th) (W : World) (K : Nat) (xs : List UInt8) (hx : t.xs = xs) (ht : t.Ok W) (hK : W.heap[K]? = some (rowObj xs)) :
    Calls Tryd.prog 88 #[t.val] W.drew fun e w' => ∃ a c, e = .returned (.slice a xs.length c) ∧ (convert 55 9 (.slice a xs.length c)).run Tryd.prog w' = .ok (.string ⟨xs.toArray⟩) w' ∧
      (convert 55 9 (.slice (some ⟨K, 0, none⟩) xs.length xs.length)).run Tryd.prog w' = .ok (.string ⟨xs.toArray⟩) w' ∧ Hid (Fr (fun _ => False) W w') := by
  subst hx
  refine (few_any t W.drew (ht.keep (Fr.refl _ W).drew)).mono ?_
  rintro e w' ⟨a, c, rfl, h⟩
  exact ⟨a, c, rfl, newB_conv h, row_conv (h.fr.heap hK (fun h => h)), (Fr.refl (fun _ => False) W).drew.trans h.fr⟩

theorem tk_on {w w2 w3 : World} {g rb : Nat} {bs : List UInt8} {p q : Nat} (h : TkP w w2 g rb bs p q) (f : Fr (fun _ => False) w2 w3) : TkP w w3 g rb bs p q :=
  ⟨h.1.keep f (fun h => h) (fun h => h), h.2.trans (f.mono (fun _ _ h => h.elim))⟩
set_option maxRecDepth 100000 in
set_option maxHeartbeats 4000000 in
theorem tk_3 (t : Th) (g rb : Nat) (bs : List UInt8) (p q : Nat) (rest : List UInt8) (w : World) (hto : ∀ w', Fr (fun k => k = g) w w' → t.Ok w') (hk : t.k = 3) (h : Rdr w g rb bs p q) (hl : leftOf bs p q = t.tb ++ rest) :
    Calls Tryd.prog 47 #[t.val, .pointer (some ⟨g, 0, none⟩)] w fun e w' => e = .returned (.bool true) ∧ TkP w w' g rb bs (p + t.tb.length) q := by
  have HT : Hid (t.tb = t.xs) := by unfold Hid Th.tb; rw [if_neg (by omega), if_neg (by omega), if_neg (by omega), if_pos hk]
  rw [HT.out] at hl ⊢
  have ht := hto w (Fr.refl _ _)
  have BX := boxed_new w t
  have f0 : Fr (fun _ => False) w (w.alloc (.cells #[.int .i64 t.k, .int .u64 (t.n : Int), .slice t.a t.len t.cap] 72)) := (Fr.refl _ _).alloc _
  have h0 := h.keep f0 (fun h => h) (fun h => h)
  have C := few_any t _ (ht.keep f0)
  have HB : Hid (Boxed w (w.alloc (.cells #[.int .i64 t.k, .int .u64 (t.n : Int), .slice t.a t.len t.cap] 72)) t ∧ g < w.heap.size ∧ Fr (fun _ => False) w (w.alloc (.cells #[.int .i64 t.k, .int .u64 (t.n : Int), .slice t.a t.len t.cap] 72)) ∧ Rdr (w.alloc (.cells #[.int .i64 t.k, .int .u64 (t.n : Int), .slice t.a t.len t.cap] 72)) g rb bs p q ∧ ∀ w', Fr (fun k => k = g) w w' → t.Ok w') := ⟨BX, heap_lt h.obj, f0, h0, hto⟩
  have HL : Hid (leftOf bs p (p + t.xs.length) = t.xs ∧ p + t.xs.length ≤ q) := ⟨left_pre hl rfl, left_room hl h.pq⟩
  obtain ⟨xs, hxs⟩ : ∃ xs, xs = t.xs := ⟨_, rfl⟩
  have HX : Hid (xs = t.xs) := hxs
  rw [← hxs] at C HL ⊢
  have HK : Hid (t.k = 3) := hk
  clear ht hto h hl BX h0 f0 hxs
  unfold Th.val at *
  rw [hk] at C HB ⊢
  clear hk
  go_enter Tryd.func47, Tryd.ntmps47
  go_wp2_with fail
  refine C.mono ?_
  rintro e w1 ⟨a1, c1, rfl, h1⟩
  have H1 : Hid (Rdr w1 g rb bs p q ∧ Boxed w w1 t ∧ Fr (fun _ => False) w w1) := ⟨HB.out.2.2.2.1.keep h1.fr (fun h => h) (fun h => h), HB.out.1.keep h1.fr (fun h => h), HB.out.2.2.1.trans h1.fr⟩
  clear C h1
  go_wp2_with fail
  refine (rraw_ok g rb bs p q xs.length w1 H1.out.1 HL.out.2).mono ?_
  rintro e w2 ⟨rfl, k2, r2, f2⟩
  rw [HL.out.1] at k2
  have H2 : Hid (TkP w w2 g rb bs (p + xs.length) q ∧ t.Ok w2) := by
    have := tk_step H1.out.2.2 r2 f2
    exact ⟨this, HB.out.2.2.2.2 _ this.2⟩
  have B2 : Boxed w w2 t := H1.out.2.1.keep f2 (by have := HB.out.2.1; omega)
  have c0 := B2.c0
  have c1 := B2.c1
  have c2 := B2.c2
  rw [HK.out] at c0
  have s1 := row_conv (w := w2.drew) k2
  have F := few_in t w2 w1.heap.size xs HX.out.symm H2.out.2 k2
  unfold Th.val at F
  rw [HK.out] at F
  clear k2 r2 f2 H1 B2 HB
  generalize w1.heap.size = K at *
  go_wp2
  go_region_with (go_at_call 88; refine F.mono ?_; rintro e w3 ⟨a3, c3, rfl, s2, s3, hf3⟩)
  all_goals (go_wp2; go_ret; exact ⟨rfl, tk_on H2.out.1 (Hid.out ‹Hid (Fr (fun _ => False) w2 _)›)⟩)
end Go.Proofs.YtcmmjkkpjclfgaaDoor
