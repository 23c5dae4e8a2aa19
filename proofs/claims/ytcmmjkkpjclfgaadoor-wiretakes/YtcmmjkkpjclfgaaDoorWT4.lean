import Derived.Test.YtcmmjkkpjclfgaaDoorWT3
import Derived.Deep.CutBlock
namespace Go.Proofs.YtcmmjkkpjclfgaaDoor
open Go.RowKit

theorem even_top {L0 : List Lv} {t t' : Lv} (h : ∀ l ∈ L0 ++ [t], l.r = l.p) (e : t'.r = t'.p) : ∀ l ∈ L0 ++ [t'], l.r = l.p := by
  intro l hl
  rcases List.mem_append.1 hl with hl | hl
  · exact h l (List.mem_append_left _ hl)
  · obtain rfl : l = t' := by simpa using hl
    exact e
section
variable {w wr w2 w3 : World} {rb : Nat} {al : List UInt8} {a0 : Option Addr} {c0 : Nat} {xa ya : Option Addr} {xc yc : Nat} {L L0 : List Lv} {t : Lv}
theorem Stk.rd' (h : Stk w wr rb al a0 c0 xa ya xc yc (L0 ++ [t])) : Rdr wr t.g rb al t.p t.q := h.lv.rd t mem_top
theorem Stk.rf' (h : Stk w wr rb al a0 c0 xa ya xc yc (L0 ++ [t])) : RefR wr t.h a0 c0 (al.take t.q) t.r := h.lv.rf t mem_top
theorem Stk.off' (h : Stk w wr rb al a0 c0 xa ya xc yc (L0 ++ [t])) : Off wr t.h a0 (al.take t.q) := h.lv.off mem_top
/-- all stands, and both Readers of each level are at one place -/
def Ev (w wr : World) (rb : Nat) (al : List UInt8) (a0 : Option Addr) (c0 : Nat) (xa ya : Option Addr) (xc yc : Nat) (L : List Lv) : Prop :=
  Stk w wr rb al a0 c0 xa ya xc yc L ∧ ∀ l ∈ L, l.r = l.p
/-- the Reader of the top has gone on; the document's not yet -/
theorem Stk.rfG {p' : Nat} (h : Stk w wr rb al a0 c0 xa ya xc yc (L0 ++ [t])) (f : Fr (fun k => k = t.g) wr w2) (r : Rdr w2 t.g rb al p' t.q) : RefR w2 t.h a0 c0 (al.take t.q) t.r ∧ Off w2 t.h a0 (al.take t.q) :=
  ⟨(h.stepG f r).rf', (h.stepG f r).off'⟩
theorem Stk.rfQ (h : Stk w wr rb al a0 c0 xa ya xc yc (L0 ++ [t])) (f : Fr (fun _ => False) wr w2) : RefR w2 t.h a0 c0 (al.take t.q) t.r ∧ Off w2 t.h a0 (al.take t.q) :=
  ⟨(h.quiet f).rf', (h.quiet f).off'⟩
/-- both have gone on -/
theorem Ev.both {p' r' : Nat} (h : Ev w wr rb al a0 c0 xa ya xc yc (L0 ++ [t])) (f : Fr (fun k => k = t.g) wr w2) (r : Rdr w2 t.g rb al p' t.q) (f3 : Fr (fun k => k = t.h) w2 w3) (r3 : RefR w3 t.h a0 c0 (al.take t.q) r') (e : r' = p') :
    Ev w w3 rb al a0 c0 xa ya xc yc (L0 ++ [{ t with p := p', r := r' }]) :=
  ⟨(h.1.stepG f r).stepH f3 r3, even_top h.2 e⟩
/-- none has -/
theorem Ev.none {r' : Nat} (h : Ev w wr rb al a0 c0 xa ya xc yc (L0 ++ [t])) (f : Fr (fun _ => False) wr w2) (f3 : Fr (fun k => k = t.h) w2 w3) (r3 : RefR w3 t.h a0 c0 (al.take t.q) r') (e : r' = t.r) :
    Ev w w3 rb al a0 c0 xa ya xc yc (L0 ++ [t]) := by
  subst e
  exact ⟨(h.1.quiet f).stepH f3 r3, h.2⟩
theorem Ev.quiet (h : Ev w wr rb al a0 c0 xa ya xc yc L) (f : Fr (fun _ => False) wr w2) : Ev w w2 rb al a0 c0 xa ya xc yc L := ⟨h.1.quiet f, h.2⟩
theorem Wraps.frH {ps : List Int} {v u : Value} {a : Option Addr} {c : Nat} {bs : List UInt8} {p h : Nat} (x : Wraps wr ps v u) (r : RefR wr h a c bs p) (f : Fr (fun k => k = h) wr w2) : Wraps w2 ps v u :=
  x.keep (fun _ _ hk => f.block _ (heap_lt hk) (obj_ne hk r.obj (by decide)))
theorem numGo_lt {bs : List UInt8} {n s k : Nat} (h : numGo bs 0 0 = (n, s, k)) : k = 0 → n < 18446744073709551616 := by
  rintro rfl
  have := rtk_lt (most := (n : Int)) h
  rwa [rtk_ok (by omega)] at this
end
end Go.Proofs.YtcmmjkkpjclfgaaDoor
