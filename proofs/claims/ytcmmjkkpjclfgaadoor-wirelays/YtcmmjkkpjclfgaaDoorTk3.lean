import Derived.Test.YtcmmjkkpjclfgaaDoorTk2
namespace Go.Proofs.YtcmmjkkpjclfgaaDoor
open Go.RowKit

/-- few, called in a region that draws, beside a Reader at its end -/
theorem few_in2 (t : Th) (W : World) (K : Nat) (xs : List UInt8) (g2 rb : Nat) (bs : List UInt8) (e0 : Nat) (hx : t.xs = xs) (ht : t.Ok W) (hK : W.heap[K]? = some (rowObj xs)) (hr : Rdr W g2 rb bs e0 e0) :
    Calls Tryd.prog 88 #[t.val] W.drew fun e w' => ∃ a c, e = .returned (.slice a xs.length c) ∧ (convert 55 9 (.slice a xs.length c)).run Tryd.prog w' = .ok (.string ⟨xs.toArray⟩) w' ∧
      (convert 55 9 (.slice (some ⟨K, 0, none⟩) xs.length xs.length)).run Tryd.prog w' = .ok (.string ⟨xs.toArray⟩) w' ∧ Calls Tryd.prog 40 #[.pointer (some ⟨g2, 0, none⟩)] w' (fun e w'' => e = .returned .nilIface ∧ ∃ n, w'' = w'.drewN n) ∧ Hid (Fr (fun _ => False) W w') := by
  subst hx
  refine (few_any t W.drew (ht.keep (Fr.refl _ W).drew)).mono ?_
  rintro e w' ⟨a, c, rfl, h⟩
  have f : Fr (fun _ => False) W w' := (Fr.refl (fun _ => False) W).drew.trans h.fr
  exact ⟨a, c, rfl, newB_conv h, row_conv (h.fr.heap hK (fun h => h)), end_ok g2 rb bs e0 w' (hr.keep f (fun h => h) (fun h => h)), f⟩

theorem fr_of_drewN {w w' : World} {n : Nat} (h : Hid (w' = w.drewN n)) : Fr (fun _ => False) w w' := by rw [h.out]; exact fr_drewN _ _
theorem hid_of {p : Prop} (h : p) : Hid p := h
set_option maxRecDepth 100000 in
set_option maxHeartbeats 4000000 in
theorem tk_4 (t : Th) (g rb : Nat) (bs : List UInt8) (p q : Nat) (rest : List UInt8) (w : World) (hto : ∀ w', Fr (fun k => k = g) w w' → t.Ok w') (hk0 : ¬ t.k = 0) (hk1 : ¬ t.k = 1) (hk2 : ¬ t.k = 2) (hk3 : ¬ t.k = 3) (h : Rdr w g rb bs p q) (hl : leftOf bs p q = t.tb ++ rest) :
    Calls Tryd.prog 47 #[t.val, .pointer (some ⟨g, 0, none⟩)] w fun e w' => e = .returned (.bool true) ∧ TkP w w' g rb bs (p + t.tb.length) q := by
  have HT : Hid (t.tb = lebF 9 t.xs.length ++ t.xs) := by unfold Hid Th.tb; rw [if_neg hk0, if_neg hk1, if_neg hk2, if_neg hk3]
  rw [HT.out] at hl ⊢
  rw [List.append_assoc] at hl
  have BX := boxed_new w t
  have f0 : Fr (fun _ => False) w (w.alloc (.cells #[.int .i64 t.k, .int .u64 (t.n : Int), .slice t.a t.len t.cap] 72)) := (Fr.refl _ _).alloc _
  have h0 := h.keep f0 (fun h => h) (fun h => h)
  have hxl := t.xs_len
  have hn := left_next hl
  have hrm1 := left_room hl h.pq
  have hrm := left_room hn hrm1
  have C := rsec_ok g rb bs p q t.xs.length (lebF 9 t.xs.length).length _ h0 (by rw [hl]; exact leb_all _ (by omega) _) (by omega)
  have HB : Hid (Boxed w (w.alloc (.cells #[.int .i64 t.k, .int .u64 (t.n : Int), .slice t.a t.len t.cap] 72)) t ∧ g < w.heap.size ∧ Fr (fun _ => False) w (w.alloc (.cells #[.int .i64 t.k, .int .u64 (t.n : Int), .slice t.a t.len t.cap] 72)) ∧ ∀ w', Fr (fun k => k = g) w w' → t.Ok w') := ⟨BX, heap_lt h.obj, f0, hto⟩
  have HL : Hid (leftOf bs (p + (lebF 9 t.xs.length).length) (p + (lebF 9 t.xs.length).length + t.xs.length) = t.xs) := left_pre hn rfl
  obtain ⟨xs, hxs⟩ : ∃ xs, xs = t.xs := ⟨_, rfl⟩
  have HX : Hid (xs = t.xs ∧ p + (lebF 9 xs.length ++ xs).length = p + (lebF 9 xs.length).length + xs.length) := ⟨hxs, by simp; omega⟩
  rw [← hxs] at C HL ⊢
  generalize lebF 9 xs.length = ls at *
  have e0 : (t.k == 0) = false := by simpa using hk0
  have e1 : (t.k == 1) = false := by simpa using hk1
  have e2 : (t.k == 2) = false := by simpa using hk2
  have e3 : (t.k == 3) = false := by simpa using hk3
  clear hto h hl BX h0 f0 hxs hk0 hk1 hk2 hk3 hxl hn hrm hrm1
  unfold Th.val at *
  go_enter Tryd.func47, Tryd.ntmps47
  go_wp2_with fail
  refine C.mono ?_
  rintro e w1 ⟨g2, rfl, r1, s1, hg2, f1⟩
  have H1 : Hid (TkP w w1 g rb bs (p + ls.length + xs.length) q ∧ Rdr w1 g2 rb bs (p + ls.length) (p + ls.length + xs.length) ∧ Boxed w w1 t ∧ w.heap.size < g2) := by
    refine ⟨tk_step HB.out.2.2.1 r1 f1, s1, HB.out.1.keep f1 (by have := HB.out.2.1; omega), ?_⟩
    rw [World.size_alloc] at hg2; omega
  clear C r1 s1 hg2 f1
  go_wp2_with fail
  refine (left_any g2 rb bs _ _ w1 H1.out.2.1).mono ?_
  rintro e w2 ⟨rfl, j2, rfl⟩
  have el : p + ls.length + xs.length - (p + ls.length) = xs.length := by omega
  rw [el]
  clear el
  go_wp2_with fail
  refine (rraw_ok g2 rb bs _ _ xs.length (w1.drewN j2) (H1.out.2.1.drewN j2) (Nat.le_refl _)).mono ?_
  rintro e w3 ⟨rfl, k3, r3, f3⟩
  rw [HL.out] at k3
  have H3 : Hid (TkP w w3 g rb bs (p + ls.length + xs.length) q ∧ t.Ok w3 ∧ Rdr w3 g2 rb bs (p + ls.length + xs.length) (p + ls.length + xs.length)) := by
    have a1 := H1.out.1
    have hg := HB.out.2.1
    have hg2 := H1.out.2.2.2
    have hrb := heap_lt a1.1.row
    have f4 : Fr (fun k => k = g2) w1 w3 := ((fr_drewN w1 j2).mono (fun _ _ h => h.elim)).trans f3
    have hne : rb ≠ g2 := H1.out.2.1.ne
    have tk : TkP w w3 g rb bs (p + ls.length + xs.length) q := ⟨a1.1.keep f4 (by omega) (by omega), a1.2.trans' f4 (fun _ _ h => h) (fun j hj h => by omega)⟩
    exact ⟨tk, HB.out.2.2.2 _ tk.2, r3⟩
  have B3 : Boxed w w3 t := (H1.out.2.2.1.keep (fr_drewN w1 j2) (fun h => h)).keep f3 (by have := H1.out.2.2.2; omega)
  have c0 := B3.c0
  have c1 := B3.c1
  have c2 := B3.c2
  have s1 := row_conv (w := w3.drew) k3
  have hK : (w1.drewN j2).heap.size = w1.heap.size := rfl
  have F := few_in2 t w3 (w1.drewN j2).heap.size xs g2 rb bs _ HX.out.1.symm H3.out.2.1 k3 H3.out.2.2
  unfold Th.val at F
  rw [hK] at s1 F
  clear k3 r3 f3 H1 B3 HB hK
  go_wp2
  go_region_with (first | (go_at_call 88; refine F.mono ?_; rintro e w4 ⟨a4, c4, rfl, s2, s3, E4, hf4⟩) | (go_at_call 40; refine (Calls.mono (by assumption) ?_); rintro e w5 ⟨rfl, n5, hw5⟩; replace hw5 := hid_of hw5))
  all_goals
    go_wp2
    go_ret
    refine ⟨rfl, ?_⟩
    rw [HX.out.2]
    refine tk_on (tk_on H3.out.1 (Hid.out ‹Hid (Fr (fun _ => False) w3 _)›)) ?_
    exact fr_of_drewN (by assumption)
theorem take_any (t : Th) (g rb : Nat) (bs : List UInt8) (p q : Nat) (rest : List UInt8) (w : World) (hto : ∀ w', Fr (fun k => k = g) w w' → t.Ok w') (h : Rdr w g rb bs p q) (hl : leftOf bs p q = t.tb ++ rest) :
    Calls Tryd.prog 47 #[t.val, .pointer (some ⟨g, 0, none⟩)] w fun e w' => e = .returned (.bool true) ∧ TkP w w' g rb bs (p + t.tb.length) q := by
  have ht := hto w (Fr.refl _ _)
  by_cases h0 : t.k = 0
  · exact tk_0 t g rb bs p q rest w ht h0 h hl
  by_cases h1 : t.k = 1
  · exact tk_1 t g rb bs p q rest w ht h1 h hl
  by_cases h2 : t.k = 2
  · exact tk_2 t g rb bs p q rest w ht h2 h hl
  by_cases h3 : t.k = 3
  · exact tk_3 t g rb bs p q rest w hto h3 h hl
  · exact tk_4 t g rb bs p q rest w hto h0 h1 h2 h3 h hl
end Go.Proofs.YtcmmjkkpjclfgaaDoor
