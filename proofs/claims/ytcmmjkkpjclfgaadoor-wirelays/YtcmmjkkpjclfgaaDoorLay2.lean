import Derived.Test.YtcmmjkkpjclfgaaDoorLay
namespace Go.Proofs.YtcmmjkkpjclfgaaDoor
open Go.RowKit

set_option maxRecDepth 100000 in
set_option maxHeartbeats 1000000 in
theorem refsec_any (a : Option Addr) (c : Nat) (xs : List UInt8) (w : World) (hr : Row w a (B8 xs)) (hc : a = none → c = 0) (hl : xs.length ≤ 40) :
    Calls Tryd.prog 89 #[.slice a xs.length c] w fun e w' => ∃ a' c', e = .returned (.slice a' (lebF 9 xs.length ++ xs).length c') ∧ NewB w w' a' c' (lebF 9 xs.length ++ xs) := by
  have C := refu_all xs.length (by omega) w
  have hll := (lebF_length 9 xs.length).2
  have HL : Hid ((lebF 9 xs.length).length ≤ 10 ∧ xs.length ≤ 40) := ⟨hll, hl⟩
  have hl' : (xs.length : Int) ≤ 40 := by omega
  obtain ⟨i0, hi, hz0, hz1, hz2⟩ := info_parts Tryd.info5
  generalize lebF 9 xs.length = ls at *
  have HR : Hid (Row w a (B8 xs) ∧ (a = none → c = 0)) := ⟨hr, hc⟩
  clear hr hc hll hl
  go_enter Tryd.func89, Tryd.ntmps89
  go_wp2_with fail
  refine C.mono ?_
  rintro e w1 ⟨a1, c1, rfl, h1⟩
  clear C
  have hown := h1.own
  have HF : Hid (Fr (fun _ => False) w w1 ∧ ∀ k, (Value.slice a1 ls.length c1).ownBlock = some k → w.heap.size ≤ k) := ⟨h1.fr, fun k hk => (h1.own.lt k hk).1⟩
  have hB := h1.fr.size
  rcases (HR.out.1.keep h1.fr (fun _ _ h => h)) with ⟨rfl, hx⟩ | ⟨x, rfl, hx⟩
  · have hx0 : xs = [] := List.eq_nil_of_length_eq_zero (by rw [← B8_length, hx]; rfl)
    obtain rfl := HR.out.2 rfl
    subst hx0
    have HAP : Hid (∀ ty, (Builtin.append_ #[55, 55] ty #[.slice a1 ls.length c1, .slice none 0 0]).run Tryd.prog w1 = .ok (.slice a1 ls.length c1) w1) :=
      fun ty => run_append_owned_none _ w.heap.size 55 ty 5 i0 1 Tryd.underlying55 hi _ _ _ hown
    have R : Hid (NewB w w1 a1 c1 ls) := h1
    clear hi hown h1 hx
    have e0 : ([] : List UInt8).length = 0 := rfl
    rw [e0]
    go_wp2_with (at_builtin; refine wpList_append_none _ rfl (.tmp 6) (.tmp 7) 55 rfl _ rfl rfl HAP.out ?_)
    go_wp2
    go_ret
    exact ⟨_, _, by rw [List.append_nil]; rfl, by rw [List.append_nil]; exact R⟩
  · clear h1
    go_wp2_with (at_builtin; refine wpList_append_own _ rfl (.tmp 6) (.tmp 7) 55 rfl w.heap.size 5 i0 (.int .u8 0) 1 1 Tryd.underlying55 hi hz0 hz1 hz2 rfl (by decide) _ ls.length (B8 ls) rfl hown x xs.length c (B8 xs) rfl (by rw [B8_length, Nat.mul_one]) hx (b8_one xs) ?c3 ?c4 hB ?_)
    case c3 => unfold maxLen; have := HL.out; omega
    case c4 => have := HL.out; omega
    intro v' w2 hown' hgrow hnil
    obtain ⟨a2, c2, rfl⟩ := ownsRow_slice hown'
    have el : ls.length + xs.length = (ls ++ xs).length := by simp
    rw [el] at hown'
    have R : Hid (NewB w w2 a2 c2 (ls ++ xs)) := by
      rw [← B8_append] at hown'
      exact ⟨hown', HF.out.1.grown hgrow (fun k hk hlt => by have := HF.out.2 k hk; omega)⟩
    rw [el]
    clear hown' hgrow hnil hown hi hx el
    generalize hzs : ls ++ xs = zs at *
    have HZ : Hid (ls ++ xs = zs) := hzs
    clear hzs
    go_wp2
    go_ret
    exact ⟨a2, c2, by rw [HZ.out]; rfl, by rw [HZ.out]; exact R⟩

set_option maxRecDepth 100000 in
set_option maxHeartbeats 1000000 in
theorem lay_3 (t : Th) (g : Nat) (r : Option Nat) (bs : List UInt8) (w : World) (ht : t.Ok w) (hk : t.k = 3) (h : Wtr w g r bs) (hl : bs.length ≤ 10000) :
    Calls Tryd.prog 45 #[t.val, .pointer (some ⟨g, 0, none⟩)] w fun e w' => ∃ a c, e = .returned (.slice a t.tb.length c) ∧ LayP w w' g r bs t.tb a c := by
  have HT : Hid (t.tb = t.xs) := by unfold Hid Th.tb; rw [if_neg (by omega), if_neg (by omega), if_neg (by omega), if_pos hk]
  rw [HT.out]
  have BX := boxed_new w t
  have f0 : Fr (fun _ => False) w (w.alloc (.cells #[.int .i64 t.k, .int .u64 (t.n : Int), .slice t.a t.len t.cap] 72)) := (Fr.refl _ _).alloc _
  have C := few_any t _ (ht.keep f0)
  have t0 := h.keep f0 (fun h => h) (fun _ _ h => h)
  have HB : Hid (Wtr w g r bs ∧ Fr (fun _ => False) w (w.alloc (.cells #[.int .i64 t.k, .int .u64 (t.n : Int), .slice t.a t.len t.cap] 72)) ∧ Wtr (w.alloc (.cells #[.int .i64 t.k, .int .u64 (t.n : Int), .slice t.a t.len t.cap] 72)) g r bs) := ⟨h, f0, t0⟩
  have hxl := t.xs_len
  have HL : Hid (bs.length + t.xs.length ≤ 1000000000) := by unfold Hid; omega
  clear ht h hl BX t0 f0 hxl
  unfold Th.val at *
  rw [hk] at *
  generalize t.xs = xs at *
  go_enter Tryd.func45, Tryd.ntmps45
  go_wp2_with fail
  refine C.mono ?_
  rintro e w1 ⟨a1, c1, rfl, h1⟩
  have t1 := HB.out.2.2.keep h1.fr (fun h => h) (fun _ _ h => h)
  have D := wraw_any g r bs xs a1 c1 w1 t1 h1.row.1.bs h1.row.2 HL.out
  have H1 : Hid (NewB (w.alloc (.cells #[.int .i64 3, .int .u64 (t.n : Int), .slice t.a t.len t.cap] 72)) w1 a1 c1 xs) := h1
  clear C h1 t1
  go_wp2_with fail
  refine D.mono ?_
  rintro e w2 ⟨rfl, h2⟩
  have H2 : Hid (LayP w w2 g r bs xs a1 c1) := by
    refine ⟨h2.pre (HB.out.2.1.trans H1.out.fr), ?_, H1.out.row.2⟩
    obtain ⟨r2, t2, f2, x2⟩ := h2
    exact H1.out.keepW HB.out.2.2 f2 rfl
  clear D h2 H1
  go_wp2
  go_ret
  exact ⟨_, _, rfl, H2.out⟩

set_option maxRecDepth 100000 in
set_option maxHeartbeats 1000000 in
theorem lay_4 (t : Th) (g : Nat) (r : Option Nat) (bs : List UInt8) (w : World) (ht : t.Ok w) (hk0 : ¬ t.k = 0) (hk1 : ¬ t.k = 1) (hk2 : ¬ t.k = 2) (hk3 : ¬ t.k = 3) (h : Wtr w g r bs) (hl : bs.length ≤ 10000) :
    Calls Tryd.prog 45 #[t.val, .pointer (some ⟨g, 0, none⟩)] w fun e w' => ∃ a c, e = .returned (.slice a t.tb.length c) ∧ LayP w w' g r bs t.tb a c := by
  have HT : Hid (t.tb = lebF 9 t.xs.length ++ t.xs) := by unfold Hid Th.tb; rw [if_neg hk0, if_neg hk1, if_neg hk2, if_neg hk3]
  rw [HT.out]
  have f0 : Fr (fun _ => False) w (w.alloc (.cells #[.int .i64 t.k, .int .u64 (t.n : Int), .slice t.a t.len t.cap] 72)) := (Fr.refl _ _).alloc _
  have C := few_any t _ (ht.keep f0)
  have t0 := h.keep f0 (fun h => h) (fun _ _ h => h)
  have HB : Hid (Wtr w g r bs ∧ Fr (fun _ => False) w (w.alloc (.cells #[.int .i64 t.k, .int .u64 (t.n : Int), .slice t.a t.len t.cap] 72)) ∧ Wtr (w.alloc (.cells #[.int .i64 t.k, .int .u64 (t.n : Int), .slice t.a t.len t.cap] 72)) g r bs) := ⟨h, f0, t0⟩
  have hxl := t.xs_len
  have HL : Hid (bs.length + t.xs.length ≤ 10000000 ∧ t.xs.length ≤ 40) := ⟨by omega, hxl⟩
  have e0 : (t.k == 0) = false := by simpa using hk0
  have e1 : (t.k == 1) = false := by simpa using hk1
  have e2 : (t.k == 2) = false := by simpa using hk2
  have e3 : (t.k == 3) = false := by simpa using hk3
  clear ht h hl t0 f0 hxl hk0 hk1 hk2 hk3
  unfold Th.val at *
  generalize t.xs = xs at *
  go_enter Tryd.func45, Tryd.ntmps45
  go_wp2_with fail
  refine C.mono ?_
  rintro e w1 ⟨a1, c1, rfl, h1⟩
  have t1 := HB.out.2.2.keep h1.fr (fun h => h) (fun _ _ h => h)
  have D := wsec_any g r bs xs a1 c1 w1 t1 (fun w' f => h1.keepW HB.out.2.2 f rfl) h1.row.2 HL.out.1
  have H1 : Hid (NewB (w.alloc (.cells #[.int .i64 t.k, .int .u64 (t.n : Int), .slice t.a t.len t.cap] 72)) w1 a1 c1 xs) := h1
  clear C h1 t1
  go_wp2_with fail
  refine D.mono ?_
  rintro e w2 ⟨rfl, h2⟩
  have H2 : Hid (WStep w w2 g r (bs ++ lebF 9 xs.length ++ xs) ∧ Row w2 a1 (B8 xs)) := by
    refine ⟨h2.pre (HB.out.2.1.trans H1.out.fr), ?_⟩
    obtain ⟨r2, t2, f2, x2⟩ := h2
    exact H1.out.keepW HB.out.2.2 f2 rfl
  clear D h2
  have E := refsec_any a1 c1 xs w2 H2.out.2 H1.out.row.2 HL.out.2
  rw [List.append_assoc] at H2
  generalize hzs : lebF 9 xs.length ++ xs = zs at *
  have HZ : Hid (lebF 9 xs.length ++ xs = zs) := hzs
  clear hzs
  go_wp2_with fail
  refine E.mono ?_
  rintro e w3 ⟨a3, c3, rfl, h3⟩
  have H3 : Hid (LayP w w3 g r bs zs a3 c3) := ⟨wstep_quiet H2.out.1 h3.fr, h3.row.1, h3.row.2⟩
  clear E h3 H2 H1
  go_wp2
  go_ret
  exact ⟨a3, c3, by rw [HZ.out]; rfl, by rw [HZ.out]; exact H3.out⟩

theorem lay_any (t : Th) (g : Nat) (r : Option Nat) (bs : List UInt8) (w : World) (ht : t.Ok w) (h : Wtr w g r bs) (hl : bs.length ≤ 10000) :
    Calls Tryd.prog 45 #[t.val, .pointer (some ⟨g, 0, none⟩)] w fun e w' => ∃ a c, e = .returned (.slice a t.tb.length c) ∧ LayP w w' g r bs t.tb a c := by
  by_cases h0 : t.k = 0
  · exact lay_0 t g r bs w ht h0 h hl
  by_cases h1 : t.k = 1
  · exact lay_1 t g r bs w ht h1 h hl
  by_cases h2 : t.k = 2
  · exact lay_2 t g r bs w ht h2 h hl
  by_cases h3 : t.k = 3
  · exact lay_3 t g r bs w ht h3 h hl
  · exact lay_4 t g r bs w ht h0 h1 h2 h3 h hl
end Go.Proofs.YtcmmjkkpjclfgaaDoor
