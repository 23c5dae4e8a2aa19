import Derived.Test.YtcmmjkkpjclfgaaDoorLay2
import Derived.Test.YtcmmjkkpjclfgaaDoorLeb
import Derived.Deep.RegionHeld3
namespace Go.Proofs.YtcmmjkkpjclfgaaDoor
open Go.RowKit

theorem leb_all (n : Nat) (h : n < 18446744073709551616) (zs : List UInt8) : numGo (lebF 9 n ++ zs) 0 0 = (n, (lebF 9 n).length, 0) := by
  have := leb_num 9 n 0 0 zs rfl (by omega) (by omega) (by omega) (fun _ => by simpa using h)
  simpa using this
theorem zag_zig (n : Int) : zag (zig n) = n := by
  unfold zag zig
  split <;> split <;> omega
theorem left_head {bs : List UInt8} {p q : Nat} {c : UInt8} {rest : List UInt8} (h : leftOf bs p q = c :: rest) (hq : q ≤ bs.length) : p < q ∧ bs[p]? = some c := by
  have hl := left_length (p := p) hq
  rw [h] at hl
  have h0 : (leftOf bs p q)[0]? = some c := by rw [h]; rfl
  simp only [leftOf, List.getElem?_drop, List.getElem?_take] at h0
  simp at hl
  refine ⟨by omega, ?_⟩
  split at h0
  · simpa using h0
  · cases h0
theorem left_eq (bs : List UInt8) (p q : Nat) : leftOf bs p q = (bs.drop p).take (q - p) := by unfold leftOf; rw [List.drop_take]
theorem left_le (bs : List UInt8) (p q : Nat) : (leftOf bs p q).length ≤ q - p := by rw [left_eq]; simp; omega
theorem left_pre {bs : List UInt8} {p q n : Nat} {xs rest : List UInt8} (h : leftOf bs p q = xs ++ rest) (hn : n = xs.length) : leftOf bs p (p + n) = xs := by
  subst hn
  have e : (leftOf bs p q).take xs.length = xs := by rw [h]; simp
  have hl := left_le bs p q
  rw [h] at hl
  simp only [List.length_append] at hl
  rw [left_eq, List.take_take] at e
  rw [left_eq, ← e]
  congr 1
  rw [e]
  omega
theorem left_room {bs : List UInt8} {p q : Nat} {xs rest : List UInt8} (h : leftOf bs p q = xs ++ rest) (hp : p ≤ q) : p + xs.length ≤ q := by
  have hl := left_le bs p q
  rw [h] at hl
  simp only [List.length_append] at hl
  omega
theorem left_next {bs : List UInt8} {p q : Nat} {xs rest : List UInt8} (h : leftOf bs p q = xs ++ rest) : leftOf bs (p + xs.length) q = rest := by
  have : leftOf bs (p + xs.length) q = (leftOf bs p q).drop xs.length := by simp [leftOf, List.drop_drop]
  rw [this, h]; simp

/-- what 'take' leaves -/
def TkP (w w' : World) (g rb : Nat) (bs : List UInt8) (p q : Nat) : Prop := Rdr w' g rb bs p q ∧ Fr (fun k => k = g) w w'
theorem tk_step {w w0 w' : World} {g rb : Nat} {bs : List UInt8} {p q : Nat} (f : Fr (fun _ => False) w w0) (h : Rdr w' g rb bs p q) (f' : Fr (fun k => k = g) w0 w') : TkP w w' g rb bs p q := ⟨h, (f.mono (fun _ _ h => h.elim)).trans f'⟩

set_option maxRecDepth 100000 in
set_option maxHeartbeats 1000000 in
theorem tk_0 (t : Th) (g rb : Nat) (bs : List UInt8) (p q : Nat) (rest : List UInt8) (w : World) (ht : t.Ok w) (hk : t.k = 0) (h : Rdr w g rb bs p q) (hl : leftOf bs p q = t.tb ++ rest) :
    Calls Tryd.prog 47 #[t.val, .pointer (some ⟨g, 0, none⟩)] w fun e w' => e = .returned (.bool true) ∧ TkP w w' g rb bs (p + t.tb.length) q := by
  have HT : Hid (t.tb = [UInt8.ofNat (t.n % 256)]) := by unfold Hid Th.tb; rw [if_pos hk]
  rw [HT.out] at hl ⊢
  have BX := boxed_new w t
  have h64 : (t.n : Int) < 18446744073709551616 := by have := ht.1; omega
  have f0 : Fr (fun _ => False) w (w.alloc (.cells #[.int .i64 t.k, .int .u64 (t.n : Int), .slice t.a t.len t.cap] 72)) := (Fr.refl _ _).alloc _
  have h0 := h.keep f0 (fun h => h) (fun h => h)
  have hh := left_head hl h.qb
  have C := rbyte_ok g rb bs p q (UInt8.ofNat (t.n % 256)) _ h0 hh.1 hh.2
  have HB : Hid (Boxed w (w.alloc (.cells #[.int .i64 t.k, .int .u64 (t.n : Int), .slice t.a t.len t.cap] 72)) t ∧ g < w.heap.size ∧ Fr (fun _ => False) w (w.alloc (.cells #[.int .i64 t.k, .int .u64 (t.n : Int), .slice t.a t.len t.cap] 72))) := ⟨BX, heap_lt h.obj, f0⟩
  have hbl := byte_lo t.n
  have heq : ((t.n : Int) % 256 == (t.n : Int) % 256) = true := beq_self_eq_true _
  rw [← hbl] at C
  clear ht h hl BX h0 f0 hh hbl
  unfold Th.val
  rw [hk] at *
  go_enter Tryd.func47, Tryd.ntmps47
  go_wp2_with fail
  refine C.mono ?_
  rintro e w1 ⟨rfl, h1, f1⟩
  have c1 : w1.cell? ⟨w.heap.size, 1, none⟩ = some (.int .u64 (t.n : Int)) := f1.cell HB.out.1.c1 (by have := HB.out.2.1; simp only; omega)
  have H1 : Hid (TkP w w1 g rb bs (p + 1) q) := tk_step HB.out.2.2 h1 f1
  clear C h1 f1
  go_wp2
  go_ret
  exact ⟨rfl, H1.out⟩
set_option maxRecDepth 100000 in
set_option maxHeartbeats 1000000 in
theorem tk_1 (t : Th) (g rb : Nat) (bs : List UInt8) (p q : Nat) (rest : List UInt8) (w : World) (ht : t.Ok w) (hk : t.k = 1) (h : Rdr w g rb bs p q) (hl : leftOf bs p q = t.tb ++ rest) :
    Calls Tryd.prog 47 #[t.val, .pointer (some ⟨g, 0, none⟩)] w fun e w' => e = .returned (.bool true) ∧ TkP w w' g rb bs (p + t.tb.length) q := by
  have HT : Hid (t.tb = lebF 9 t.n) := by unfold Hid Th.tb; rw [if_neg (by omega), if_pos hk]
  rw [HT.out] at hl ⊢
  have BX := boxed_new w t
  have f0 : Fr (fun _ => False) w (w.alloc (.cells #[.int .i64 t.k, .int .u64 (t.n : Int), .slice t.a t.len t.cap] 72)) := (Fr.refl _ _).alloc _
  have h0 := h.keep f0 (fun h => h) (fun h => h)
  have C := ruint_ok g rb bs p q (t.n : Int) t.n (lebF 9 t.n).length _ h0 (by rw [hl]; exact leb_all _ ht.1 _) (by omega)
  have HB : Hid (Boxed w (w.alloc (.cells #[.int .i64 t.k, .int .u64 (t.n : Int), .slice t.a t.len t.cap] 72)) t ∧ g < w.heap.size ∧ Fr (fun _ => False) w (w.alloc (.cells #[.int .i64 t.k, .int .u64 (t.n : Int), .slice t.a t.len t.cap] 72))) := ⟨BX, heap_lt h.obj, f0⟩
  have heq : ((t.n : Int) == (t.n : Int)) = true := beq_self_eq_true _
  clear ht h hl BX h0 f0
  unfold Th.val
  rw [hk] at *
  go_enter Tryd.func47, Tryd.ntmps47
  go_wp2_with fail
  refine C.mono ?_
  rintro e w1 ⟨rfl, h1, f1⟩
  have c1 : w1.cell? ⟨w.heap.size, 1, none⟩ = some (.int .u64 (t.n : Int)) := f1.cell HB.out.1.c1 (by have := HB.out.2.1; simp only; omega)
  have H1 : Hid (TkP w w1 g rb bs (p + (lebF 9 t.n).length) q) := tk_step HB.out.2.2 h1 f1
  clear C h1 f1
  go_wp2
  go_ret
  exact ⟨rfl, H1.out⟩
set_option maxRecDepth 100000 in
set_option maxHeartbeats 1000000 in
theorem tk_2 (t : Th) (g rb : Nat) (bs : List UInt8) (p q : Nat) (rest : List UInt8) (w : World) (ht : t.Ok w) (hk : t.k = 2) (h : Rdr w g rb bs p q) (hl : leftOf bs p q = t.tb ++ rest) :
    Calls Tryd.prog 47 #[t.val, .pointer (some ⟨g, 0, none⟩)] w fun e w' => e = .returned (.bool true) ∧ TkP w w' g rb bs (p + t.tb.length) q := by
  have HT : Hid (t.tb = lebF 9 (zig (asI t.n))) := by unfold Hid Th.tb; rw [if_neg (by omega), if_neg (by omega), if_pos hk]
  rw [HT.out] at hl ⊢
  have BX := boxed_new w t
  have bd := asI_bd t.n ht.1
  have hwr := asI_wrap t.n ht.1
  have f0 : Fr (fun _ => False) w (w.alloc (.cells #[.int .i64 t.k, .int .u64 (t.n : Int), .slice t.a t.len t.cap] 72)) := (Fr.refl _ _).alloc _
  have h0 := h.keep f0 (fun h => h) (fun h => h)
  have C := rint_ok g rb bs p q (zig (asI t.n)) (lebF 9 (zig (asI t.n))).length _ h0 (by rw [hl]; exact leb_all _ (zig_lt _ bd.1 bd.2) _) (zig_lt _ bd.1 bd.2)
  rw [zag_zig] at C
  have HB : Hid (Boxed w (w.alloc (.cells #[.int .i64 t.k, .int .u64 (t.n : Int), .slice t.a t.len t.cap] 72)) t ∧ g < w.heap.size ∧ Fr (fun _ => False) w (w.alloc (.cells #[.int .i64 t.k, .int .u64 (t.n : Int), .slice t.a t.len t.cap] 72))) := ⟨BX, heap_lt h.obj, f0⟩
  have heq : (asI t.n == asI t.n) = true := beq_self_eq_true _
  clear ht h hl BX h0 f0 bd
  unfold Th.val
  rw [hk] at *
  go_enter Tryd.func47, Tryd.ntmps47
  go_wp2_with fail
  refine C.mono ?_
  rintro e w1 ⟨rfl, h1, f1⟩
  have c1 : w1.cell? ⟨w.heap.size, 1, none⟩ = some (.int .u64 (t.n : Int)) := f1.cell HB.out.1.c1 (by have := HB.out.2.1; simp only; omega)
  have H1 : Hid (TkP w w1 g rb bs (p + (lebF 9 (zig (asI t.n))).length) q) := tk_step HB.out.2.2 h1 f1
  clear C h1 f1
  go_wp2
  go_ret
  exact ⟨rfl, H1.out⟩
end Go.Proofs.YtcmmjkkpjclfgaaDoor
