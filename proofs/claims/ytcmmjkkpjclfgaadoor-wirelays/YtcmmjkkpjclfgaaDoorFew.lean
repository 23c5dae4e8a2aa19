import Derived.Test.YtcmmjkkpjclfgaaDoorRefU
import Derived.Test.YtcmmjkkpjclfgaaDoorApart
import Derived.Test.YtcmmjkkpjclfgaaDoorRb
import Derived.Deep.RegionHeld3
namespace Go.Proofs.YtcmmjkkpjclfgaaDoor
open Go.RowKit

/-- a Thing that came in: its kind, its number, its bytes (an address, a length, a capacity, all of them up to the capacity) -/
structure Th where
  k : Int
  n : Nat
  a : Option Addr
  len : Nat
  cap : Nat
  ys : List UInt8
def Th.val (t : Th) : Value := .agg #[.int .i64 t.k, .int .u64 (t.n : Int), .slice t.a t.len t.cap]
def Th.xs (t : Th) : List UInt8 := t.ys.take (min t.len 40)
def Th.Ok (w : World) (t : Th) : Prop := t.n < 18446744073709551616 ∧ Row w t.a (B8 t.ys) ∧ t.ys.length = t.cap ∧ t.len ≤ t.cap ∧ (t.a = none → t.cap = 0) ∧ t.cap ≤ 9223372036854775807
theorem Th.xs_len (t : Th) : t.xs.length ≤ 40 := by unfold Th.xs; simp; omega
theorem Th.Ok.keep {w w' : World} {t : Th} (h : t.Ok w) (f : Fr (fun _ => False) w w') : t.Ok w' := ⟨h.1, h.2.1.keep f (fun _ _ h => h), h.2.2⟩
theorem Th.Ok.xsLen {w : World} {t : Th} (h : t.Ok w) : t.xs.length = min t.len 40 := by unfold Th.xs; have := h.2.2.1; have := h.2.2.2.1; simp; omega

set_option maxRecDepth 100000 in
set_option maxHeartbeats 1000000 in
theorem few_any (t : Th) (w : World) (h : t.Ok w) : Calls Tryd.prog 88 #[t.val] w fun e w' => ∃ a c, e = .returned (.slice a t.xs.length c) ∧ NewB w w' a c t.xs := by
  obtain ⟨i0, hi, hz0, hz1, hz2⟩ := info_parts Tryd.info5
  have hxl := h.xsLen
  have HX : Hid (t.xs.length = min t.len 40 ∧ Row w t.a (B8 t.xs) ∧ (t.a = none → t.cap = 0)) := ⟨hxl, take_row h.2.1 _, h.2.2.2.2.1⟩
  have hlc := h.2.2.2.1
  have hcm := h.2.2.2.2.2
  clear h hxl
  generalize t.xs = xs at *
  obtain ⟨k, n, a, len, cap, ys⟩ := t
  unfold Th.val
  simp only at *
  have b1 : (len : Int) ≤ cap := by omega
  have b2 : (cap : Int) ≤ 9223372036854775807 := by omega
  clear hlc hcm
  have e1 : (w.alloc (.cells #[.int .i64 k, .int .u64 (n : Int), .slice a len cap] 72)).heap.size = w.heap.size + 1 := World.size_alloc _ _
  have hown : ((w.alloc (.cells #[.int .i64 k, .int .u64 (n : Int), .slice a len cap] 72)).alloc (.cells #[] 5)).ownsRow w.heap.size 5 1 (.slice (some ⟨w.heap.size + 1, 0, none⟩) 0 0) 0 [] := by
    have := World.ownsRow_lit (base := w.heap.size) (e := 5) (size := 1) (w.alloc (.cells #[.int .i64 k, .int .u64 (n : Int), .slice a len cap] 72)) #[] 0 (by rw [e1]; omega) (Nat.zero_le _) rfl
    rw [e1] at this
    exact this
  have HF : Hid (Fr (fun _ => False) w ((w.alloc (.cells #[.int .i64 k, .int .u64 (n : Int), .slice a len cap] 72)).alloc (.cells #[] 5))) := ((Fr.refl _ _).alloc _).alloc _
  clear e1
  rcases a with _ | x
  · have hc0 := HX.out.2.2 rfl
    subst hc0
    obtain rfl : len = 0 := by omega
    have HE : Hid (xs = []) := List.eq_nil_of_length_eq_zero (by have := HX.out.1; omega)
    have HAP : Hid (∀ ty, (Builtin.append_ #[55, 55] ty #[.slice (some ⟨w.heap.size + 1, 0, none⟩) 0 0, .slice none 0 0]).run Tryd.prog ((w.alloc (.cells #[.int .i64 k, .int .u64 (n : Int), .slice none 0 0] 72)).alloc (.cells #[] 5)) = .ok (.slice (some ⟨w.heap.size + 1, 0, none⟩) 0 0) ((w.alloc (.cells #[.int .i64 k, .int .u64 (n : Int), .slice none 0 0] 72)).alloc (.cells #[] 5))) :=
      fun ty => run_append_owned_none _ w.heap.size 55 ty 5 i0 1 Tryd.underlying55 hi _ _ _ hown
    have R : Hid (NewB w ((w.alloc (.cells #[.int .i64 k, .int .u64 (n : Int), .slice none 0 0] 72)).alloc (.cells #[] 5)) (some ⟨w.heap.size + 1, 0, none⟩) 0 []) := ⟨hown, HF.out⟩
    clear hi hown
    go_enter Tryd.func88, Tryd.ntmps88
    go_wp2_with (at_builtin; refine wpList_append_none _ rfl (.tmp 3) (.tmp 10) 55 rfl _ rfl rfl HAP.out ?_)
    go_wp2
    go_ret
    exact ⟨_, _, by rw [HE.out]; rfl, by rw [HE.out]; exact R⟩
  · have hx : ∀ j u, (B8 xs)[j]? = some u → ((w.alloc (.cells #[.int .i64 k, .int .u64 (n : Int), .slice (some x) len cap] 72)).alloc (.cells #[] 5)).cell? (x.add j) = some u := by
      rcases HX.out.2.1 with ⟨h, _⟩ | ⟨x', h, hc⟩
      · cases h
      · cases h
        intro j u hj
        exact HF.out.cell (hc j u hj) (fun h => h)
    by_cases h40 : len ≤ 40
    · have HM : Hid (xs.length = len) := by have := HX.out.1; unfold Hid; omega
      have h40' : ¬ (40 : Int) < len := by omega
      go_enter Tryd.func88, Tryd.ntmps88
      go_wp2_with (at_builtin; refine wpList_append_own _ rfl (.tmp 3) (.tmp 10) 55 rfl w.heap.size 5 i0 (.int .u8 0) 1 1 Tryd.underlying55 hi hz0 hz1 hz2 rfl (by decide) _ 0 [] rfl hown x len cap (B8 xs) rfl (by rw [B8_length, Nat.mul_one]; exact HM.out) hx (b8_one xs) ?c3 ?c4 ?c5 ?_)
      case c3 => unfold maxLen; omega
      case c4 => omega
      case c5 => first | exact HF.out.size | omega
      intro v' w2 hown' hgrow hnil
      obtain ⟨a2, c2, rfl⟩ := ownsRow_slice hown'
      have R : Hid (NewB w w2 a2 c2 xs) := by
        rw [← HM.out] at hown'
        exact ⟨hown', HF.out.grown hgrow (fun k hk hlt => by simp only [Value.ownBlock, Option.some.injEq] at hk; omega)⟩
      clear hown' hgrow hnil hown hi hx
      go_wp2
      go_ret
      exact ⟨a2, c2, by rw [HM.out]; rfl, R⟩
    · have HM : Hid (xs.length = 40) := by have := HX.out.1; unfold Hid; omega
      have h40' : (40 : Int) < len := by omega
      have h40c : (40 : Int) ≤ cap := by omega
      go_enter Tryd.func88, Tryd.ntmps88
      go_wp2_with (at_builtin; refine wpList_append_own _ rfl (.tmp 3) (.tmp 10) 55 rfl w.heap.size 5 i0 (.int .u8 0) 1 1 Tryd.underlying55 hi hz0 hz1 hz2 rfl (by decide) _ 0 [] rfl hown x 40 cap (B8 xs) rfl (by rw [B8_length, Nat.mul_one]; exact HM.out) hx (b8_one xs) ?c3 ?c4 ?c5 ?_)
      case c3 => unfold maxLen; omega
      case c4 => omega
      case c5 => first | exact HF.out.size | omega
      intro v' w2 hown' hgrow hnil
      obtain ⟨a2, c2, rfl⟩ := ownsRow_slice hown'
      have R : Hid (NewB w w2 a2 c2 xs) := by
        rw [← HM.out] at hown'
        exact ⟨hown', HF.out.grown hgrow (fun k hk hlt => by simp only [Value.ownBlock, Option.some.injEq] at hk; omega)⟩
      clear hown' hgrow hnil hown hi hx
      go_wp2
      go_ret
      exact ⟨a2, c2, by rw [HM.out]; rfl, R⟩
end Go.Proofs.YtcmmjkkpjclfgaaDoor
