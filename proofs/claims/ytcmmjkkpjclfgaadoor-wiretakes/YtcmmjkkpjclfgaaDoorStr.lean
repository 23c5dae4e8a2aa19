import Derived.Test.YtcmmjkkpjclfgaaDoorRaw
namespace Go.Proofs.YtcmmjkkpjclfgaaDoor
open Go.RowKit

theorem foldl_push (xs : List UInt8) (s : ByteArray) : (xs.map fun c => (c.toNat : Int)).foldl (fun (r : ByteArray) (n : Int) => r.push (UInt8.ofNat n.toNat)) s = ⟨s.data ++ xs.toArray⟩ := by
  induction xs generalizing s with
  | nil => simp
  | cons x xs ih =>
    simp only [List.map_cons, List.foldl_cons]
    rw [ih]
    have e : UInt8.ofNat ((x.toNat : Int)).toNat = x := by rw [Int.toNat_natCast]; exact UInt8.ofNat_toNat
    rw [e]
    simp [ByteArray.push]
theorem conv_str (xs : List UInt8) (a : Option Addr) (c : Nat) (w : World) (h : Row w a (B8 xs)) (hc : a = none → c = 0) :
    (convert 55 9 (.slice a xs.length c)).run Tryd.prog w = .ok (.string ⟨xs.toArray⟩) w := by
  rw [run_convert_bytes_string w 55 9 5 _ _ _ Tryd.underlying55 Tryd.underlying5 Tryd.underlying9]
  rcases h with ⟨rfl, h⟩ | ⟨x, rfl, h⟩
  · have e : xs = [] := List.eq_nil_of_length_eq_zero (by rw [← B8_length, h]; rfl)
    subst e
    obtain rfl := hc rfl
    rfl
  · have hl := run_loadCells_list (P := Tryd.prog) w x (B8 xs) h
    rw [B8_length] at hl
    have e : B8 xs = (xs.map fun c => (c.toNat : Int)).map (Value.int .u8) := by simp [B8]
    rw [e] at hl
    have := run_bytesToString w x xs.length c _ hl
    rw [this, foldl_push]
    simp
theorem rowObj_row {w : World} {k : Nat} {xs : List UInt8} (h : w.heap[k]? = some (rowObj xs)) : Row w (some ⟨k, 0, none⟩) (B8 xs) := by
  refine .inr ⟨_, rfl, fun j u hj => ?_⟩
  have h' : w.heap[k]? = some (Obj.cells (B8 xs).toArray 5 (0, 0)) := h
  have hc : w.cell? ⟨k, 0 + j, none⟩ = some u := by
    simp only [World.cell?, h']
    simpa using hj
  by_cases hz : j = 0
  · subst hz; simpa [Addr.add] using hc
  · simpa [Addr.add, hz] using hc

set_option maxRecDepth 100000 in
set_option maxHeartbeats 400000 in
theorem end_ok (g rb : Nat) (bs : List UInt8) (p : Nat) (w : World) (h : Rdr w g rb bs p p) :
    Calls Tryd.prog 40 #[.pointer (some ⟨g, 0, none⟩)] w fun e w' => e = .returned .nilIface ∧ ∃ n, w' = w.drewN n := by
  have L := left_any g rb bs p p w h
  rw [Nat.sub_self] at L
  clear h
  go_enter Tryd.func40, Tryd.ntmps40
  go_wp2_with fail
  refine L.mono ?_
  rintro e w' ⟨rfl, j, rfl⟩
  clear L
  go_wp2
  go_ret
  exact ⟨rfl, j, rfl⟩
end Go.Proofs.YtcmmjkkpjclfgaaDoor
