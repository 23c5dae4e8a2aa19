import Derived.Test.YtcmmjkkpjclfgaaDoorSec
import Derived.Test.YtcmmjkkpjclfgaaDoorLeb
namespace Go.Proofs.YtcmmjkkpjclfgaaDoor
open Go.RowKit

/-- a row of bytes of the call's own -/
structure NewB (w w' : World) (a : Option Addr) (c : Nat) (xs : List UInt8) : Prop where
  own : w'.ownsRow w.heap.size 5 1 (.slice a xs.length c) xs.length (B8 xs)
  fr : Fr (fun _ => False) w w'
theorem NewB.bs {w w' : World} {a : Option Addr} {c : Nat} {xs : List UInt8} (h : NewB w w' a c xs) (hx : xs ≠ []) : ∃ k, a = some ⟨k, 0, none⟩ ∧ ∀ j u, (B8 xs)[j]? = some u → w'.cell? ((⟨k, 0, none⟩ : Addr).add j) = some u := by
  rcases h.own.2 with ⟨e, e2⟩ | ⟨g, cap, cur, e, _⟩
  · exact absurd (List.eq_nil_of_length_eq_zero e2) hx
  · have e' := e
    simp only [Value.slice.injEq] at e'
    exact ⟨g, e'.1, h.own.cells (g := g) (by rw [e]; rfl)⟩
theorem NewB.row {w w' : World} {a : Option Addr} {c : Nat} {xs : List UInt8} (h : NewB w w' a c xs) : Row w' a (B8 xs) ∧ (a = none → c = 0) := by
  rcases h.own.2 with ⟨e, e2⟩ | ⟨g, cap, cur, e, _⟩
  · simp only [Value.slice.injEq] at e
    exact ⟨.inl ⟨e.1, by rw [List.eq_nil_of_length_eq_zero e2]; rfl⟩, fun _ => e.2.2⟩
  · have e' := e
    simp only [Value.slice.injEq] at e'
    exact ⟨.inr ⟨_, e'.1, h.own.cells (g := g) (by rw [e]; rfl)⟩, fun h => by rw [e'.1] at h; cases h⟩
theorem newB_one (w : World) (c : UInt8) : NewB w (w.alloc (.cells #[.int .u8 (c.toNat : Int)] 5)) (some ⟨w.heap.size, 0, none⟩) 1 [c] :=
  ⟨World.ownsRow_lit w #[.int .u8 (c.toNat : Int)] 1 (Nat.le_refl _) (by simp [maxLen]) rfl, (Fr.refl _ _).alloc _⟩
set_option maxRecDepth 100000 in
set_option maxHeartbeats 400000 in
theorem refu_any : ∀ (f n : Nat), n < 128 ^ (f + 1) → f ≤ 9 → n < 18446744073709551616 → ∀ w : World, Calls Tryd.prog 86 #[.int .u64 (n : Int)] w fun e w' => ∃ a c, e = .returned (.slice a (lebF f n).length c) ∧ NewB w w' a c (lebF f n) := by
  intro f
  induction f with
  | zero =>
    intro n hn _ h64 w
    have hlt : (n : Int) < 128 := by simp at hn; omega
    have HL : Hid (lebF 0 n = [UInt8.ofNat n] ∧ ((UInt8.ofNat n).toNat : Int) = n) := ⟨rfl, (low8 n (by omega)).symm⟩
    have h0 : (0 : Int) ≤ n := by omega
    clear hn h64
    go_enter Tryd.func86, Tryd.ntmps86
    go_wp2
    go_ret
    have := newB_one w (UInt8.ofNat n)
    rw [HL.out.2] at this
    exact ⟨_, _, rfl, this⟩
  | succ f ih =>
    intro n hn hf h64 w
    by_cases hlt : n < 128
    · have hlt' : (n : Int) < 128 := by omega
      have HL : Hid (lebF (f + 1) n = [UInt8.ofNat n] ∧ ((UInt8.ofNat n).toNat : Int) = n) := ⟨lebF_small _ _ hlt, (low8 n (by omega)).symm⟩
      have h0 : (0 : Int) ≤ n := by omega
      clear hn h64 ih
      go_enter Tryd.func86, Tryd.ntmps86
      go_wp2
      go_ret
      have := newB_one w (UInt8.ofNat n)
      rw [HL.out.2] at this
      rw [HL.out.1]
      exact ⟨_, _, rfl, this⟩
    · have hlt' : ¬ (n : Int) < 128 := by omega
      have HL : Hid (lebF (f + 1) n = [UInt8.ofNat (n % 128 + 128)] ++ lebF f (n / 128)) := lebF_big f n (by omega)
      have hll := lebF_length f (n / 128)
      have HLL : Hid (1 ≤ (lebF f (n / 128)).length ∧ (lebF f (n / 128)).length ≤ 10) := ⟨hll.1, by omega⟩
      obtain ⟨a, ha⟩ : ∃ a : Int, a = (n : Int) := ⟨_, rfl⟩
      obtain ⟨b, hb⟩ : ∃ b : Int, b = ((n / 128 : Nat) : Int) := ⟨_, rfl⟩
      have hab : a / 128 = b := by omega
      obtain ⟨x, hx⟩ : ∃ x : UInt8, x = UInt8.ofNat (n % 128 + 128) := ⟨_, rfl⟩
      have hxv : a % 128 + 128 = (x.toNat : Int) := by rw [hx, UInt8.toNat_ofNat']; omega
      have a0 : (0 : Int) ≤ a := by omega
      have a1 : 128 ≤ a := by omega
      have a2 : a < 18446744073709551616 := by omega
      have a3 : ¬ a < 128 := by omega
      have D := fun w => ih (n / 128) (by rw [Nat.pow_succ] at hn; omega) (by omega) (by omega) w
      rw [← hb] at D
      rw [← ha]
      rw [← hx] at HL
      obtain ⟨i0, hi, hz0, hz1, hz2⟩ := info_parts Tryd.info5
      generalize lebF f (n / 128) = ls at *
      clear hn hf h64 ih hlt hlt' hll ha hb hx
      go_enter Tryd.func86, Tryd.ntmps86
      go_wp2_with fail
      refine (D _).mono ?_
      rintro e w1 ⟨a1', c1', rfl, h1⟩
      have e1 : (w.alloc (.cells #[.int .u8 (x.toNat : Int)] 5)).heap.size = w.heap.size + 1 := World.size_alloc _ _
      have hne : ls ≠ [] := fun e => by have := HLL.out.1; rw [e] at this; simp at this
      obtain ⟨kb, rfl, hcells⟩ := h1.bs hne
      have hown : w1.ownsRow w.heap.size 5 1 (.slice (some ⟨w.heap.size, 0, none⟩) 1 1) 1 (B8 [x]) := by
        have := (newB_one w x).own
        exact ownsRow_heap this (fun k hk => h1.fr.block k (this.lt k hk).2 (fun h => h))
      have HF : Hid (Fr (fun _ => False) w w1) := ((Fr.refl _ w).alloc _).trans h1.fr
      have hB := HF.out.size
      clear D h1 e1 hne
      go_wp2_with (at_builtin; refine wpList_append_own _ rfl (.tmp 12) (.tmp 15) 55 rfl w.heap.size 5 i0 (.int .u8 0) 1 1 Tryd.underlying55 hi hz0 hz1 hz2 rfl (by decide) (.slice (some ⟨w.heap.size, 0, none⟩) 1 1) 1 (B8 [x]) rfl hown ⟨kb, 0, none⟩ ls.length c1' (B8 ls) rfl (by rw [B8_length, Nat.mul_one]) hcells (b8_one ls) ?c3 ?c4 hB ?_)
      case c3 => unfold maxLen; have := HLL.out; omega
      case c4 => have := HLL.out; omega
      intro v' w2 hown' hgrow hnil
      obtain ⟨a2', c2', rfl⟩ := ownsRow_slice hown'
      have el : 1 + ls.length = ([x] ++ ls).length := by simp; omega
      rw [el] at hown'
      have R : Hid (NewB w w2 a2' c2' ([x] ++ ls)) := by
        rw [← B8_append] at hown'
        exact ⟨hown', HF.out.grown hgrow (fun k hk hlt => by simp only [Value.ownBlock, Option.some.injEq] at hk; omega)⟩
      rw [el]
      clear el hown' hgrow hnil hown hi hcells
      generalize [x] ++ ls = zs at *
      go_wp2
      go_ret
      exact ⟨a2', c2', by rw [HL.out]; rfl, by rw [HL.out]; exact R⟩
/-- a number's bytes by the document -/
theorem refu_all (n : Nat) (h : n < 18446744073709551616) (w : World) : Calls Tryd.prog 86 #[.int .u64 (n : Int)] w fun e w' => ∃ a c, e = .returned (.slice a (lebF 9 n).length c) ∧ NewB w w' a c (lebF 9 n) :=
  refu_any 9 n (by omega) (by omega) h w
theorem zigr_any (n : Int) (h1 : -9223372036854775808 ≤ n) (h2 : n < 9223372036854775808) (w : World) : Calls Tryd.prog 87 #[.int .i64 n] w fun e w' => e = .returned (.int .u64 (zig n : Int)) ∧ w = w' := by
  by_cases h : n < 0
  · have HE : Hid ((zig n : Int) = 2 * -(n + 1) + 1) := by unfold Hid zig; rw [if_pos h]; omega
    go_enter Tryd.func87, Tryd.ntmps87
    go_wp2
    go_ret
    exact ⟨by rw [HE.out]; rfl, rfl⟩
  · have HE : Hid ((zig n : Int) = 2 * n) := by unfold Hid zig; rw [if_neg h]; omega
    go_enter Tryd.func87, Tryd.ntmps87
    go_wp2
    go_ret
    exact ⟨by rw [HE.out]; rfl, rfl⟩
end Go.Proofs.YtcmmjkkpjclfgaaDoor
