import Derived.Test.YtcmmjkkpjclfgaaDoorWT4
import Derived.Test.YtcmmjkkpjclfgaaDoorStr
namespace Go.Proofs.YtcmmjkkpjclfgaaDoor
open Go.RowKit

theorem row_conv5 {w : World} {k : Nat} {xs : List UInt8} (h : w.heap[k]? = some (rowObj xs)) : (convert 55 9 (.slice (some ⟨k, 0, none⟩) xs.length xs.length)).run Tryd.prog w = .ok (.string ⟨xs.toArray⟩) w :=
  conv_str xs _ _ w (rowObj_row h) (fun h => by cases h)
theorem raw_same {al : List UInt8} {p q n : Nat} (h : p + n ≤ q) : ((al.take q).drop p).take n = leftOf al p (p + n) := by
  unfold leftOf
  rw [List.drop_take, List.drop_take, List.take_take, Nat.min_eq_left (by omega), Nat.add_sub_cancel_left]
/-- the bytes of both Readers, read as strings -/
theorem raw_convs {w5 w6 : World} {K h n : Nat} {a' : Option Addr} {c' : Nat} {xs ys : List UInt8} (k5 : w5.heap[K]? = some (rowObj xs)) (f6 : Fr (fun k => k = h) w5 w6) (hK : K ≠ h) (hx : xs.length = n) (e : ys = xs) (r : Row w6 a' (B8 ys)) (hc : a' = none → c' = 0) :
    (convert 55 9 (.slice (some ⟨K, 0, none⟩) n n)).run Tryd.prog w6 = .ok (.string ⟨xs.toArray⟩) w6 ∧ (convert 55 9 (.slice a' n c')).run Tryd.prog w6 = .ok (.string ⟨xs.toArray⟩) w6 := by
  subst e hx
  exact ⟨row_conv5 (f6.heap k5 hK), conv_str _ a' c' w6 r hc⟩
section
variable {w wr w2 w3 : World} {rb : Nat} {al : List UInt8} {a0 : Option Addr} {c0 : Nat} {xa ya : Option Addr} {xc yc : Nat} {L L0 : List Lv} {t : Lv}
/-- a level more on each side, ahead of the two appends -/
theorem Ev.more {g2 h2 p' p2 q2 : Nat} (h : Ev w wr rb al a0 c0 xa ya xc yc (L0 ++ [t])) (f5 : Fr (fun k => k = t.g) wr w2) (r5 : Rdr w2 t.g rb al p' t.q) (r5' : Rdr w2 g2 rb al p2 q2) (hg2 : wr.heap.size ≤ g2) (f6 : Fr (fun k => k = t.h) w2 w3) {r' r2 : Nat} (r6 : RefR w3 t.h a0 c0 (al.take t.q) r') (r6' : RefR w3 h2 a0 c0 (al.take q2) r2) (hh2 : w2.heap.size ≤ h2) (e : r' = p') :
    Ev w w3 rb al a0 c0 xa ya xc yc (L0 ++ [{ t with p := p', r := r' }]) ∧ Lvs w w3 rb al a0 c0 ((L0 ++ [{ t with p := p', r := r' }]) ++ [⟨g2, h2, p2, r2, q2⟩]) := by
  have H := h.both f5 r5 f6 r6 e
  have hsz := f5.size
  have hbe := h.1.lv.be.size
  refine ⟨H, H.1.lv.push ?_ r6' ?_ ?_ ?_⟩
  · exact r5'.keep f6 (obj_ne r5'.obj (h.1.stepG f5 r5).rf'.obj (by decide)) (obj_ne r5'.row (h.1.stepG f5 r5).rf'.obj (by decide))
  · intro l hl
    have hlt : ∀ l ∈ L0 ++ [t], l.g < wr.heap.size := fun l hl => heap_lt (h.1.lv.rd l hl).obj
    show l.g ≠ g2
    rcases List.mem_append.1 hl with hl | hl
    · have := hlt l (List.mem_append_left _ hl); omega
    · obtain rfl := List.mem_singleton.1 hl
      have := hlt t mem_top
      show t.g ≠ g2
      omega
  · intro l hl
    have hlt : ∀ l ∈ L0 ++ [t], l.h < wr.heap.size := fun l hl => heap_lt (h.1.lv.rf l hl).obj
    show l.h ≠ h2
    rcases List.mem_append.1 hl with hl | hl
    · have := hlt l (List.mem_append_left _ hl); omega
    · obtain rfl := List.mem_singleton.1 hl
      have := hlt t mem_top
      show t.h ≠ h2
      omega
  · show w.heap.size ≤ g2 ∧ w.heap.size ≤ h2
    omega
end
end Go.Proofs.YtcmmjkkpjclfgaaDoor
