import Derived.Test.YtcmmjkkpjclfgaaDoorRt
import Derived.Test.YtcmmjkkpjclfgaaDoorRb
namespace Go.Proofs.YtcmmjkkpjclfgaaDoor
open Go.RowKit

/-- the document's Reader at block h: of the bytes bs, at place p -/
structure RefR (w : World) (h : Nat) (a : Option Addr) (c : Nat) (bs : List UInt8) (p : Nat) : Prop where
  obj : w.heap[h]? = some (Obj.cells #[.slice a bs.length c, .int .i64 (p : Int)] 81 (0, 0))
  row : Row w a (B8 bs)
  pq : p ≤ bs.length
  len : bs.length ≤ 200
  cap : (a = none → c = 0) ∧ bs.length ≤ c ∧ c ≤ 140737488355328
theorem RefR.c0 {w : World} {h : Nat} {a : Option Addr} {c : Nat} {bs : List UInt8} {p : Nat} (r : RefR w h a c bs p) : w.cell? ⟨h, 0, none⟩ = some (.slice a bs.length c) := by simp [World.cell?, r.obj]
theorem RefR.c1 {w : World} {h : Nat} {a : Option Addr} {c : Nat} {bs : List UInt8} {p : Nat} (r : RefR w h a c bs p) : w.cell? ⟨h, 1, none⟩ = some (.int .i64 (p : Int)) := by simp [World.cell?, r.obj]
theorem RefR.fz {w : World} {h : Nat} {a : Option Addr} {c : Nat} {bs : List UInt8} {p : Nat} (r : RefR w h a c bs p) (o : Nat) : w.frozen? ⟨h, o, none⟩ = false := by simp [World.frozen?, r.obj]
theorem RefR.drewN {w : World} {h : Nat} {a : Option Addr} {c : Nat} {bs : List UInt8} {p : Nat} (r : RefR w h a c bs p) (n : Nat) : RefR (w.drewN n) h a c bs p := ⟨r.obj, r.row.keep (fr_drewN _ _) (fun _ _ h => h), r.pq, r.len, r.cap⟩
/-- a row's address is in a block that isn't h, or the row is empty -/
def Off (w : World) (h : Nat) (a : Option Addr) (ys : List UInt8) : Prop := ∀ w' : World, Fr (fun k => k = h) w w' → Row w' a (B8 ys)
theorem ref_set {w W : World} {h : Nat} {a : Option Addr} {c : Nat} {bs : List UInt8} {p p' : Nat} (r : RefR w h a c bs p) (ho : Off w h a bs) (hW : Below w.heap.size w W) (hh : W.heap = w.heap) (hp : p' ≤ bs.length) (z : Int) (hz : z = p') :
    RefR (W.setCell ⟨h, 1, none⟩ (.int .i64 z)) h a c bs p' ∧ Fr (fun k => k = h) w (W.setCell ⟨h, 1, none⟩ (.int .i64 z)) := by
  subst hz
  have f : Fr (fun k => k = h) w (W.setCell ⟨h, 1, none⟩ (.int .i64 (p' : Int))) := fr_set hW _ _
  refine ⟨⟨?_, ho _ f, hp, r.len, r.cap⟩, f⟩
  have : W.heap[h]? = _ := (congrArg (·[h]?) hh).trans r.obj
  simp [World.setCell, Array.getElem?_modify, this]

set_option maxRecDepth 100000 in
set_option maxHeartbeats 400000 in
theorem refb_short (h : Nat) (a : Option Addr) (c : Nat) (bs : List UInt8) (w : World) (r : RefR w h a c bs bs.length) :
    Calls Tryd.prog 48 #[.pointer (some ⟨h, 0, none⟩)] w fun e w' => e = .returned (.tuple #[.int .u8 0, .int .i64 2]) ∧ ∃ n, w' = w.drewN n := by
  have c0 := r.c0
  have c1 := r.c1
  have hl : (bs.length : Int) ≤ 200 := by have := r.len; omega
  clear r
  go_enter Tryd.func48, Tryd.ntmps48
  go_wp2
  go_quiet (fail)
  go_wp2
  go_ret2
  exact ⟨rfl, _, rfl⟩
set_option maxRecDepth 100000 in
set_option maxHeartbeats 400000 in
theorem refb_ok (h : Nat) (a : Option Addr) (c : Nat) (bs : List UInt8) (p : Nat) (ch : UInt8) (w : World) (r : RefR w h a c bs p) (ho : Off w h a bs) (hp : p < bs.length) (hc : bs[p]? = some ch) :
    Calls Tryd.prog 48 #[.pointer (some ⟨h, 0, none⟩)] w fun e w' => e = .returned (.tuple #[.int .u8 (ch.toNat : Int), .int .i64 0]) ∧ RefR w' h a c bs (p + 1) ∧ Fr (fun k => k = h) w w' := by
  have c0 := r.c0
  have c1 := r.c1
  have f1 := r.fz 1
  have hl : (bs.length : Int) ≤ 200 := by have := r.len; omega
  have hp1 : (p : Int) < bs.length := by omega
  have hp0 : (0 : Int) ≤ p := by omega
  have hv : (B8 bs)[p]? = some (.int .u8 (ch.toNat : Int)) := by simp [B8, hc]
  have H : Hid (RefR w h a c bs p ∧ Off w h a bs ∧ p < bs.length) := ⟨r, ho, hp⟩
  obtain ⟨b, o, rfl, hcell⟩ := (ho _ (Fr.refl _ w)).at hv
  have hbn : ∀ n z, ((w.drewN n).setCell ⟨h, 1, none⟩ (.int .i64 z)).cell? ⟨b, o + p, none⟩ = some (.int .u8 (ch.toNat : Int)) := fun n z => by
    obtain ⟨b', o', e, hx⟩ := (ho _ (fr_set (below_drewN' w n _) 1 (.int .i64 z))).at hv
    cases e
    exact hx
  have g0 : ∀ n z, ((w.drewN n).setCell ⟨h, 1, none⟩ (.int .i64 z)).cell? ⟨h, 0, none⟩ = some (.slice (some ⟨b, o, none⟩) bs.length c) := fun n z => (World.cell?_setCell_other _ _ _ _ (by simp)).trans c0
  have g1 : ∀ n z, ((w.drewN n).setCell ⟨h, 1, none⟩ (.int .i64 z)).cell? ⟨h, 1, none⟩ = some (.int .i64 z) := fun n z => World.cell?_setCell_same _ _ _ c1
  clear r ho hc hv
  go_enter Tryd.func48, Tryd.ntmps48
  go_wp2
  go_quiet (fail)
  go_wp2
  go_quiet (fail)
  go_wp2
  go_ret2
  have R := fun j => ref_set (W := w.drewN j) (p' := p + 1) H.out.1 H.out.2.1 (below_drewN' w _ _) rfl (by have := H.out.2.2; omega) ((p : Int) + 1) (by omega)
  exact ⟨rfl, (R _).1.drewN _, (R _).2.trans ((fr_drewN _ _).mono (fun _ _ h => h.elim))⟩
theorem rtk_size {most : Int} {bs : List UInt8} {n s k : Nat} (h : numGo bs 0 0 = (n, s, k)) : (rtk most n s k).2.1 ≤ bs.length := by
  unfold rtk
  split
  · simp
  · rename_i hk
    have hk0 : k = 0 := by simpa using hk
    subst hk0
    split
    · simp
    · have := numGo_size _ _ _ _ _ h
      simp only
      omega
theorem rtk_lt {most : Int} {bs : List UInt8} {n s k : Nat} (h : numGo bs 0 0 = (n, s, k)) : (rtk most n s k).1 < 18446744073709551616 := by
  unfold rtk
  split
  · simp
  · rename_i hk
    have hk0 : k = 0 := by simpa using hk
    subst hk0
    split
    · simp
    · exact (numGo_once h).2.1
set_option maxRecDepth 100000 in
set_option maxHeartbeats 400000 in
theorem refuint_any (h : Nat) (a : Option Addr) (c : Nat) (bs : List UInt8) (p : Nat) (most : Int) (n s k : Nat) (w : World) (r : RefR w h a c bs p) (ho : Off w h a bs) (hn : numGo (bs.drop p) 0 0 = (n, s, k)) :
    Calls Tryd.prog 49 #[.pointer (some ⟨h, 0, none⟩), .int .u64 most] w fun e w' => e = .returned (.tuple #[.int .u64 ((rtk most n s k).1 : Int), .int .i64 ((rtk most n s k).2.2 : Int)]) ∧ RefR w' h a c bs (p + (rtk most n s k).2.1) ∧ Fr (fun k => k = h) w w' := by
  have c0 := r.c0
  have c1 := r.c1
  have f1 := r.fz 1
  have C : ∀ j, Calls Tryd.prog 90 #[.slice a bs.length c, .int .i64 (p : Int), .int .u64 most] (w.drewN j) fun e w' => e = .returned (tri (rtk most n s k)) ∧ w' = w.drewN j := fun j =>
    (reft_any a c bs p most (w.drewN j) (r.row.keep (fr_drewN _ _) (fun _ _ h => h)) r.pq r.len n s k hn).mono fun _ _ ⟨h1, h2⟩ => ⟨h1, h2.symm⟩
  have hsz := rtk_size (most := most) hn
  rw [List.length_drop] at hsz
  generalize rtk most n s k = x at *
  obtain ⟨n', s', k'⟩ := x
  simp only at hsz
  unfold tri at C
  have hl : (bs.length : Int) ≤ 200 := by have := r.len; omega
  have hps : (p : Int) + s' ≤ bs.length := by have := r.pq; omega
  have H : Hid (RefR w h a c bs p ∧ Off w h a bs ∧ p + s' ≤ bs.length) := ⟨r, ho, by have := r.pq; omega⟩
  clear r ho hn hsz
  go_enter Tryd.func49, Tryd.ntmps49
  go_wp2
  go_quiet ((go_at_call 90; exact Calls.quiet_of_same (C _)))
  clear C
  go_wp2
  go_ret2
  have R := ref_set (p' := p + s') H.out.1 H.out.2.1 (below_drewN' w nq _) rfl H.out.2.2 ((p : Int) + s') (by omega)
  exact ⟨rfl, R⟩
theorem zagr_any (n : Nat) (h : n < 18446744073709551616) (w : World) : Calls Tryd.prog 91 #[.int .u64 (n : Int)] w fun e w' => e = .returned (.int .i64 (zag n)) ∧ w = w' := by
  obtain ⟨a, ha⟩ : ∃ a : Int, a = (n : Int) := ⟨_, rfl⟩
  have a0 : 0 ≤ a := by omega
  have a1 : a < 18446744073709551616 := by omega
  by_cases ho : n % 2 = 1
  · have HE : Hid (zag n = -(a / 2) - 1) := by unfold Hid zag; rw [if_pos ho]; omega
    have h1 : (a % 2 == 1) = true := by simp; omega
    rw [← ha]
    clear ha ho h
    go_enter Tryd.func91, Tryd.ntmps91
    go_wp2
    go_ret
    exact ⟨by rw [HE.out]; rfl, rfl⟩
  · have HE : Hid (zag n = a / 2) := by unfold Hid zag; rw [if_neg ho]; omega
    have h1 : (a % 2 == 1) = false := by simp; omega
    rw [← ha]
    clear ha ho h
    go_enter Tryd.func91, Tryd.ntmps91
    go_wp2
    go_ret
    exact ⟨by rw [HE.out]; rfl, rfl⟩
set_option maxRecDepth 100000 in
set_option maxHeartbeats 400000 in
theorem refint_any (h : Nat) (a : Option Addr) (c : Nat) (bs : List UInt8) (p : Nat) (n s k : Nat) (w : World) (r : RefR w h a c bs p) (ho : Off w h a bs) (hn : numGo (bs.drop p) 0 0 = (n, s, k)) :
    Calls Tryd.prog 50 #[.pointer (some ⟨h, 0, none⟩)] w fun e w' => e = .returned (.tuple #[.int .i64 (zag (rtk 18446744073709551615 n s k).1), .int .i64 ((rtk 18446744073709551615 n s k).2.2 : Int)]) ∧ RefR w' h a c bs (p + (rtk 18446744073709551615 n s k).2.1) ∧ Fr (fun k => k = h) w w' := by
  have C := refuint_any h a c bs p 18446744073709551615 n s k w r ho hn
  have D := fun w => zagr_any (rtk 18446744073709551615 n s k).1 (rtk_lt hn) w
  clear r ho hn
  generalize rtk 18446744073709551615 n s k = x at *
  obtain ⟨n', s', k'⟩ := x
  simp only at *
  go_enter Tryd.func50, Tryd.ntmps50
  go_wp2_with fail
  refine C.mono ?_
  rintro e w1 ⟨rfl, h1⟩
  have H1 : Hid (RefR w1 h a c bs (p + s') ∧ Fr (fun k => k = h) w w1) := h1
  clear C h1
  go_wp2_with fail
  refine (D w1).mono ?_
  rintro e w2 ⟨rfl, hw⟩
  obtain rfl := hw
  clear D
  go_wp2
  go_ret2
  exact ⟨rfl, H1.out⟩
set_option maxRecDepth 100000 in
set_option maxHeartbeats 400000 in
theorem refraw_neg (h : Nat) (n : Int) (hn : n < 0) (w : World) :
    Calls Tryd.prog 51 #[.pointer (some ⟨h, 0, none⟩), .int .i64 n] w fun e w' => e = .returned (.tuple #[.slice none 0 0, .int .i64 1]) ∧ w = w' := by
  go_enter Tryd.func51, Tryd.ntmps51
  go_wp2
  go_ret2
  exact ⟨rfl, rfl⟩
set_option maxRecDepth 100000 in
set_option maxHeartbeats 400000 in
theorem refraw_short (h : Nat) (a : Option Addr) (c : Nat) (bs : List UInt8) (p : Nat) (n : Int) (w : World) (r : RefR w h a c bs p) (hn : 0 ≤ n) (hs : (bs.length : Int) - p < n) :
    Calls Tryd.prog 51 #[.pointer (some ⟨h, 0, none⟩), .int .i64 n] w fun e w' => e = .returned (.tuple #[.slice none 0 0, .int .i64 2]) ∧ ∃ j, w' = w.drewN j := by
  have c0 := r.c0
  have c1 := r.c1
  have hl : (bs.length : Int) ≤ 200 := by have := r.len; omega
  have hp0 : (0 : Int) ≤ p := by omega
  have hp1 : (p : Int) ≤ bs.length := by have := r.pq; omega
  clear r
  go_enter Tryd.func51, Tryd.ntmps51
  go_wp2
  go_quiet (fail)
  go_wp2
  go_ret2
  exact ⟨rfl, _, rfl⟩
end Go.Proofs.YtcmmjkkpjclfgaaDoor
