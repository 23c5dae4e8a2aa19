import Derived.Test.YtcmmjkkpjclfgaaDoorSame
import Derived.Test.YtcmmjkkpjclfgaaDoorCpy
import Derived.Lib.AppendStr
namespace Go.Proofs.YtcmmjkkpjclfgaaDoor
open Go.RowKit Go.Lib

/-- the text of a digit -/
def digS (d : Nat) : ByteArray := ⟨#[UInt8.ofNat (48 + d)]⟩
set_option maxRecDepth 100000 in
set_option maxHeartbeats 400000 in
theorem small_digit (d : Nat) (hd : d = 1 ∨ d = 2 ∨ d = 3) (w : World) : Calls Tryd.prog 117 #[.int .i64 (d : Int)] w fun e w' => e = .returned (.string (digS d)) ∧ w' = w := by
  rcases hd with rfl | rfl | rfl
  · go_enter Tryd.func117, Tryd.ntmps117
    go_wp2
    go_ret
    exact ⟨rfl, rfl⟩
  · go_enter Tryd.func117, Tryd.ntmps117
    go_wp2
    go_ret
    exact ⟨rfl, rfl⟩
  · go_enter Tryd.func117, Tryd.ntmps117
    go_wp2
    go_ret
    exact ⟨rfl, rfl⟩
theorem strCells_dig (d : Nat) : strCells (digS d) = B8 [UInt8.ofNat (48 + d)] := by simp [strCells, digS, B8]

/-- what an append leaves: the row of v alone may have turned -/
def Grew (w w' : World) (v : Value) : Prop := Fr (fun k => some k = v.ownBlock) w w'
theorem grew_of {w w' : World} {v : Value} (h : w.grownBy w' v.ownBlock) : Grew w w' v := (Fr.refl _ w).grown h (fun _ hk _ => hk.symm)

set_option maxRecDepth 100000 in
set_option maxHeartbeats 400000 in
theorem appU_digit (B d : Nat) (hd : d = 1 ∨ d = 2 ∨ d = 3) (a : Option Addr) (c : Nat) (bs : List UInt8) (w : World) (ho : w.ownsRow B 5 1 (.slice a bs.length c) bs.length (B8 bs)) (hB : B ≤ w.heap.size) (hl : bs.length ≤ 1000) :
    Calls Tryd.prog 114 #[.slice a bs.length c, .int .u64 (d : Int), .int .i64 10] w fun e w' => ∃ a' c', e = .returned (.slice a' (bs.length + 1) c') ∧ w'.ownsRow B 5 1 (.slice a' (bs.length + 1) c') (bs.length + 1) (B8 (bs ++ [UInt8.ofNat (48 + d)])) ∧ Grew w w' (.slice a bs.length c) := by
  have C := small_digit d hd w
  have hd1 : (d : Int) < 100 := by omega
  have hsz : (digS d).size = 1 := rfl
  have hsc := strCells_dig d
  have HS : Hid ((digS d).size = 1 ∧ strCells (digS d) = B8 [UInt8.ofNat (48 + d)] ∧ bs.length ≤ 1000) := ⟨hsz, hsc, hl⟩
  obtain ⟨i0, hi, hz0, hz1, hz2⟩ := info_parts Tryd.info5
  generalize digS d = ds at *
  clear hsz hsc hl hd
  go_enter Tryd.func114, Tryd.ntmps114
  go_wp2_with fail
  refine C.mono ?_
  rintro e w1 ⟨rfl, hw1⟩
  obtain rfl := hw1.symm
  clear C
  go_wp2_with (at_builtin; refine wpList_append_own_string _ rfl (.tmp 13) (.tmp 16) 55 9 rfl B 5 i0 Tryd.underlying55 Tryd.underlying9 hi hz0 hz1 hz2 (.slice a bs.length c) bs.length (B8 bs) rfl ho ds rfl ?c1 ?c2 hB ?_)
  case c1 => have := HS.out; unfold maxLen; omega
  case c2 => have := HS.out; omega
  intro v' w2 hown' hgrow hnil
  obtain ⟨a', c', rfl⟩ := ownsRow_slice hown'
  have R : Hid (w2.ownsRow B 5 1 (.slice a' (bs.length + 1) c') (bs.length + 1) (B8 (bs ++ [UInt8.ofNat (48 + d)])) ∧ Grew w w2 (.slice a bs.length c)) := by
    have := hown'
    rw [HS.out.1, HS.out.2.1, ← B8_append] at this
    exact ⟨this, grew_of hgrow⟩
  rw [HS.out.1]
  clear hown' hgrow hnil hi ho
  go_wp2
  go_ret
  exact ⟨a', c', rfl, R.out⟩

set_option maxRecDepth 100000 in
set_option maxHeartbeats 400000 in
theorem appI_digit (B d : Nat) (hd : d = 1 ∨ d = 2 ∨ d = 3) (a : Option Addr) (c : Nat) (bs : List UInt8) (w : World) (ho : w.ownsRow B 5 1 (.slice a bs.length c) bs.length (B8 bs)) (hB : B ≤ w.heap.size) (hl : bs.length ≤ 1000) :
    Calls Tryd.prog 73 #[.slice a bs.length c, .int .i64 (d : Int), .int .i64 10] w fun e w' => ∃ a' c', e = .returned (.slice a' (bs.length + 1) c') ∧ w'.ownsRow B 5 1 (.slice a' (bs.length + 1) c') (bs.length + 1) (B8 (bs ++ [UInt8.ofNat (48 + d)])) ∧ Grew w w' (.slice a bs.length c) := by
  have C := appU_digit B d hd a c bs w ho hB hl
  have h0 : ¬ (d : Int) < 0 := by omega
  have h1 : (d : Int) ≤ 3 := by omega
  clear ho hB hl hd
  go_enter Tryd.func73, Tryd.ntmps73
  go_wp2_with (first | (go_at_call 104; go_in))
  refine C.mono ?_
  rintro e w1 ⟨a', c', rfl, h⟩
  have H : Hid _ := h
  clear C h
  go_wp2
  go_ret
  exact ⟨a', c', rfl, H.out⟩
end Go.Proofs.YtcmmjkkpjclfgaaDoor
