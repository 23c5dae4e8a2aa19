import Derived.Test.YtcmmjkkpjclfgaaDoorFew
namespace Go.Proofs.YtcmmjkkpjclfgaaDoor
open Go.RowKit

/-- a uint64 as an int64 -/
def asI (n : Nat) : Int := if n < 9223372036854775808 then n else (n : Int) - 18446744073709551616
theorem asI_bd (n : Nat) (h : n < 18446744073709551616) : -9223372036854775808 ≤ asI n ∧ asI n < 9223372036854775808 := by unfold asI; split <;> omega
theorem asI_wrap (n : Nat) (h : n < 18446744073709551616) : wrap64 (n : Int) = asI n := by unfold asI wrap64; split <;> omega
theorem zig_lt (n : Int) (h1 : -9223372036854775808 ≤ n) (h2 : n < 9223372036854775808) : zig n < 18446744073709551616 := by unfold zig; split <;> omega
/-- a Thing's bytes by the document -/
def Th.tb (t : Th) : List UInt8 :=
  if t.k = 0 then [UInt8.ofNat (t.n % 256)] else if t.k = 1 then lebF 9 t.n else if t.k = 2 then lebF 9 (zig (asI t.n)) else if t.k = 3 then t.xs else lebF 9 t.xs.length ++ t.xs
theorem Th.tb_len (t : Th) : t.tb.length ≤ 50 := by
  unfold Th.tb
  have h1 := (lebF_length 9 t.n).2
  have h2 := (lebF_length 9 (zig (asI t.n))).2
  have h3 := (lebF_length 9 t.xs.length).2
  have h4 := t.xs_len
  split
  · simp
  split
  · omega
  split
  · omega
  split
  · omega
  · simp; omega
/-- what 'lay' leaves: the Writer has the Thing's bytes, and a row has them -/
def LayP (w w' : World) (g : Nat) (r : Option Nat) (bs xs : List UInt8) (a : Option Addr) (c : Nat) : Prop :=
  WStep w w' g r (bs ++ xs) ∧ Row w' a (B8 xs) ∧ (a = none → c = 0)
theorem byte_lo (n : Nat) : ((n : Int) % 256) = ((UInt8.ofNat (n % 256)).toNat : Int) := by rw [UInt8.toNat_ofNat']; omega
theorem wstep_quiet {w w1 w2 : World} {g : Nat} {r : Option Nat} {bs : List UInt8} (h : WStep w w1 g r bs) (f : Fr (fun _ => False) w1 w2) : WStep w w2 g r bs := by
  obtain ⟨r1, t1, f1, x1⟩ := h
  exact ⟨r1, t1.keep f (fun h => h) (fun _ _ h => h), f1.trans (f.mono (fun _ _ h => h.elim)), x1⟩

/-- behind the box of the Thing -/
structure Boxed (w w1 : World) (t : Th) : Prop where
  box : w1.heap[w.heap.size]? = some (.cells #[.int .i64 t.k, .int .u64 (t.n : Int), .slice t.a t.len t.cap] 72 (0, 0))
theorem Boxed.c0 {w w1 : World} {t : Th} (h : Boxed w w1 t) : w1.cell? ⟨w.heap.size, 0, none⟩ = some (.int .i64 t.k) := by simp [World.cell?, h.box]
theorem Boxed.c1 {w w1 : World} {t : Th} (h : Boxed w w1 t) : w1.cell? ⟨w.heap.size, 1, none⟩ = some (.int .u64 (t.n : Int)) := by simp [World.cell?, h.box]
theorem Boxed.c2 {w w1 : World} {t : Th} (h : Boxed w w1 t) : w1.cell? ⟨w.heap.size, 2, none⟩ = some (.slice t.a t.len t.cap) := by simp [World.cell?, h.box]
theorem boxed_new (w : World) (t : Th) : Boxed w (w.alloc (.cells #[.int .i64 t.k, .int .u64 (t.n : Int), .slice t.a t.len t.cap] 72)) t := ⟨heap_alloc_new w _⟩
theorem Boxed.keep {S : Nat → Prop} {w w1 w2 : World} {t : Th} (h : Boxed w w1 t) (f : Fr S w1 w2) (hs : ¬ S w.heap.size) : Boxed w w2 t := ⟨f.heap h.box hs⟩
theorem wtr_fresh {w : World} {g : Nat} {r : Option Nat} {bs : List UInt8} (h : Wtr w g r bs) : ∀ k, w.heap.size ≤ k → ¬ (k = g ∨ some k = r) := by
  rintro k hk (rfl | e)
  · have := h.lt.1; omega
  · have := h.lt.2 k e.symm; omega
theorem WStep.pre {w w0 w1 : World} {g : Nat} {r : Option Nat} {bs : List UInt8} (f : Fr (fun _ => False) w w0) (h : WStep w0 w1 g r bs) : WStep w w1 g r bs :=
  WStep.go (f.mono (fun _ _ h => h.elim)) (.inl rfl) h
theorem NewB.keepW {w0 w w1 w2 : World} {g : Nat} {r : Option Nat} {bs zs : List UInt8} {a : Option Addr} {c : Nat} (h : NewB w w1 a c zs) (ht : Wtr w g r bs) (f : Fr (fun k => k = g ∨ some k = r) w1 w2) (_ : w0 = w) : Row w2 a (B8 zs) := by
  refine h.row.1.keep f ?_
  intro ad hh
  rcases h.own.2 with ⟨e, e2⟩ | ⟨k, cap, cur, e, hlo, _⟩
  · simp only [Value.slice.injEq] at e
    rw [e.1] at hh; cases hh
  · simp only [Value.slice.injEq] at e
    rw [e.1] at hh
    cases hh
    exact wtr_fresh ht k hlo

set_option maxRecDepth 100000 in
set_option maxHeartbeats 1000000 in
theorem lay_0 (t : Th) (g : Nat) (r : Option Nat) (bs : List UInt8) (w : World) (ht : t.Ok w) (hk : t.k = 0) (h : Wtr w g r bs) (hl : bs.length ≤ 10000) :
    Calls Tryd.prog 45 #[t.val, .pointer (some ⟨g, 0, none⟩)] w fun e w' => ∃ a c, e = .returned (.slice a t.tb.length c) ∧ LayP w w' g r bs t.tb a c := by
  have HT : Hid (t.tb = [UInt8.ofNat (t.n % 256)]) := by unfold Hid Th.tb; rw [if_pos hk]
  rw [HT.out]
  have BX := boxed_new w t
  have h64 : (t.n : Int) < 18446744073709551616 := by have := ht.1; omega
  have f0 : Fr (fun _ => False) w (w.alloc (.cells #[.int .i64 t.k, .int .u64 (t.n : Int), .slice t.a t.len t.cap] 72)) := (Fr.refl _ _).alloc _
  have t0 := h.keep f0 (fun h => h) (fun _ _ h => h)
  have C := byte_any g r bs ((t.n : Int) % 256) (UInt8.ofNat (t.n % 256)) (byte_lo t.n) (w.alloc (.cells #[.int .i64 t.k, .int .u64 (t.n : Int), .slice t.a t.len t.cap] 72)) t0 (show bs.length ≤ 1000000000 by omega)
  have HB : Hid (Boxed w (w.alloc (.cells #[.int .i64 t.k, .int .u64 (t.n : Int), .slice t.a t.len t.cap] 72)) t ∧ Wtr w g r bs ∧ Fr (fun _ => False) w (w.alloc (.cells #[.int .i64 t.k, .int .u64 (t.n : Int), .slice t.a t.len t.cap] 72))) := ⟨BX, h, f0⟩
  clear ht h hl BX t0 f0
  unfold Th.val
  rw [hk] at *
  go_enter Tryd.func45, Tryd.ntmps45
  go_wp2_with fail
  refine C.mono ?_
  rintro e w1 ⟨rfl, h1⟩
  have c1 : w1.cell? ⟨w.heap.size, 1, none⟩ = some (.int .u64 (t.n : Int)) := by
    obtain ⟨r1, t1, f1, x1⟩ := h1
    have := HB.out.1.c1
    exact f1.cell this (wtr_fresh HB.out.2.1 _ (Nat.le_refl _))
  have H1 : Hid (WStep w w1 g r (bs ++ [UInt8.ofNat (t.n % 256)])) := h1.pre HB.out.2.2
  clear C h1
  go_wp2
  go_ret
  refine ⟨_, _, rfl, wstep_quiet H1.out ((Fr.refl _ _).alloc _), ?_, fun h => by cases h⟩
  rw [byte_lo]
  exact (newB_one w1 _).row.1
set_option maxRecDepth 100000 in
set_option maxHeartbeats 1000000 in
theorem lay_1 (t : Th) (g : Nat) (r : Option Nat) (bs : List UInt8) (w : World) (ht : t.Ok w) (hk : t.k = 1) (h : Wtr w g r bs) (hl : bs.length ≤ 10000) :
    Calls Tryd.prog 45 #[t.val, .pointer (some ⟨g, 0, none⟩)] w fun e w' => ∃ a c, e = .returned (.slice a t.tb.length c) ∧ LayP w w' g r bs t.tb a c := by
  have HT : Hid (t.tb = lebF 9 t.n) := by unfold Hid Th.tb; rw [if_neg (by omega), if_pos hk]
  rw [HT.out]
  have BX := boxed_new w t
  have f0 : Fr (fun _ => False) w (w.alloc (.cells #[.int .i64 t.k, .int .u64 (t.n : Int), .slice t.a t.len t.cap] 72)) := (Fr.refl _ _).alloc _
  have t0 := h.keep f0 (fun h => h) (fun _ _ h => h)
  have C := uint_any g r bs t.n (w.alloc (.cells #[.int .i64 t.k, .int .u64 (t.n : Int), .slice t.a t.len t.cap] 72)) t0 ht.1 (by omega)
  have HB : Hid (Boxed w (w.alloc (.cells #[.int .i64 t.k, .int .u64 (t.n : Int), .slice t.a t.len t.cap] 72)) t ∧ Wtr w g r bs ∧ Fr (fun _ => False) w (w.alloc (.cells #[.int .i64 t.k, .int .u64 (t.n : Int), .slice t.a t.len t.cap] 72))) := ⟨BX, h, f0⟩
  have D := fun w => refu_all t.n ht.1 w
  clear ht h hl BX t0 f0
  unfold Th.val
  rw [hk] at *
  go_enter Tryd.func45, Tryd.ntmps45
  go_wp2_with fail
  refine C.mono ?_
  rintro e w1 ⟨rfl, h1⟩
  have c1 : w1.cell? ⟨w.heap.size, 1, none⟩ = some (.int .u64 (t.n : Int)) := by
    obtain ⟨r1, t1, f1, x1⟩ := h1
    have := HB.out.1.c1
    exact f1.cell this (wtr_fresh HB.out.2.1 _ (Nat.le_refl _))
  have H1 : Hid (WStep w w1 g r (bs ++ lebF 9 t.n)) := h1.pre HB.out.2.2
  clear C h1
  go_wp2_with fail
  refine (D w1).mono ?_
  rintro e w2 ⟨a2, c2, rfl, h2⟩
  have H2 : Hid (LayP w w2 g r bs (lebF 9 t.n) a2 c2) := ⟨wstep_quiet H1.out h2.fr, h2.row.1, h2.row.2⟩
  clear D h2 H1
  go_wp2
  go_ret
  exact ⟨_, _, rfl, H2.out⟩
set_option maxRecDepth 100000 in
set_option maxHeartbeats 1000000 in
theorem lay_2 (t : Th) (g : Nat) (r : Option Nat) (bs : List UInt8) (w : World) (ht : t.Ok w) (hk : t.k = 2) (h : Wtr w g r bs) (hl : bs.length ≤ 10000) :
    Calls Tryd.prog 45 #[t.val, .pointer (some ⟨g, 0, none⟩)] w fun e w' => ∃ a c, e = .returned (.slice a t.tb.length c) ∧ LayP w w' g r bs t.tb a c := by
  have HT : Hid (t.tb = lebF 9 (zig (asI t.n))) := by unfold Hid Th.tb; rw [if_neg (by omega), if_neg (by omega), if_pos hk]
  rw [HT.out]
  have BX := boxed_new w t
  have f0 : Fr (fun _ => False) w (w.alloc (.cells #[.int .i64 t.k, .int .u64 (t.n : Int), .slice t.a t.len t.cap] 72)) := (Fr.refl _ _).alloc _
  have t0 := h.keep f0 (fun h => h) (fun _ _ h => h)
  have bd := asI_bd t.n ht.1
  have hwr := asI_wrap t.n ht.1
  have C := wint_any g r bs (asI t.n) (w.alloc (.cells #[.int .i64 t.k, .int .u64 (t.n : Int), .slice t.a t.len t.cap] 72)) t0 bd.1 bd.2 (by omega)
  have HB : Hid (Boxed w (w.alloc (.cells #[.int .i64 t.k, .int .u64 (t.n : Int), .slice t.a t.len t.cap] 72)) t ∧ Wtr w g r bs ∧ Fr (fun _ => False) w (w.alloc (.cells #[.int .i64 t.k, .int .u64 (t.n : Int), .slice t.a t.len t.cap] 72))) := ⟨BX, h, f0⟩
  have E := fun w => zigr_any (asI t.n) bd.1 bd.2 w
  have D := fun w => refu_all (zig (asI t.n)) (zig_lt _ bd.1 bd.2) w
  clear ht h hl BX t0 f0 bd
  unfold Th.val
  rw [hk] at *
  generalize asI t.n = z at *
  go_enter Tryd.func45, Tryd.ntmps45
  go_wp2_with fail
  refine C.mono ?_
  rintro e w1 ⟨rfl, h1⟩
  have c1 : w1.cell? ⟨w.heap.size, 1, none⟩ = some (.int .u64 (t.n : Int)) := by
    obtain ⟨r1, t1, f1, x1⟩ := h1
    have := HB.out.1.c1
    exact f1.cell this (wtr_fresh HB.out.2.1 _ (Nat.le_refl _))
  have H1 : Hid (WStep w w1 g r (bs ++ lebF 9 (zig z))) := h1.pre HB.out.2.2
  clear C h1
  go_wp2_with fail
  refine (E w1).mono ?_
  rintro e w1' ⟨rfl, hw⟩
  obtain rfl := hw
  go_wp2_with fail
  refine (D w1).mono ?_
  rintro e w2 ⟨a2, c2, rfl, h2⟩
  have H2 : Hid (LayP w w2 g r bs (lebF 9 (zig z)) a2 c2) := ⟨wstep_quiet H1.out h2.fr, h2.row.1, h2.row.2⟩
  clear D h2 H1
  go_wp2
  go_ret
  exact ⟨_, _, rfl, H2.out⟩
end Go.Proofs.YtcmmjkkpjclfgaaDoor
