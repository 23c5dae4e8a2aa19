import Derived.Test.YtcmmjkkpjclfgaaDoorAppI
import Derived.Test.YtcmmjkkpjclfgaaDoorStr
namespace Go.Proofs.YtcmmjkkpjclfgaaDoor
open Go.RowKit Go.Lib

def registerS : ByteArray := ⟨#[114, 101, 103, 105, 115, 116, 101, 114]⟩
set_option maxRecDepth 100000 in
set_option maxHeartbeats 400000 in
theorem error_9 (w : World) : Calls Tryd.prog 74 #[.int .i64 9] w fun e w' => e = .returned (.string registerS) ∧ w' = w := by
  go_enter Tryd.func74, Tryd.ntmps74
  go_wp2
  go_ret
  exact ⟨rfl, rfl⟩

/-- the line behind k rounds -/
def lf (k : Nat) : List UInt8 := ([49, 46, 50, 46, 51] : List UInt8).take (2 * k - 1)
/-- at a round's head: the line is owned, the places can be read -/
structure TextSt (w wr : World) (ap : Option Addr) (cp : Nat) (a : Option Addr) (n c : Nat) (bs : List UInt8) : Prop where
  own : n = bs.length ∧ wr.ownsRow w.heap.size 5 1 (.slice a n c) n (B8 bs)
  path : wr.ownsRow 0 3 1 (.slice ap 3 cp) 3 (I64 [1, 2, 3])
  fr : Fr (fun _ => False) w wr
theorem row5_ne3 {w : World} {B n m : Nat} {v u : Value} {xs ys : List Value} (h : w.ownsRow B 5 1 v n xs) (h' : w.ownsRow 0 3 1 u m ys) : ∀ k, u.ownBlock = some k → ¬ some k = v.ownBlock := by
  intro k hk e
  rcases h.2 with ⟨rfl, _⟩ | ⟨g, cap, cur, rfl, _, hg, _⟩
  · simp [Value.ownBlock] at e
  · rcases h'.2 with ⟨rfl, _⟩ | ⟨g', cap', cur', rfl, _, hg', _⟩
    · simp [Value.ownBlock] at hk
    · simp only [Value.ownBlock, Option.some.injEq] at hk e
      subst hk
      subst e
      rw [hg] at hg'
      simp at hg'
theorem TextSt.step {w wr w2 : World} {ap a a' : Option Addr} {cp n n' c c' : Nat} {bs cs : List UInt8} (h : TextSt w wr ap cp a n c bs) (hg : Grew wr w2 (.slice a n c)) (hn : n' = cs.length) (ho : w2.ownsRow w.heap.size 5 1 (.slice a' n' c') n' (B8 cs)) : TextSt w w2 ap cp a' n' c' cs :=
  ⟨⟨hn, ho⟩, ownsRow_heap h.path (fun k hk => hg.block k (h.path.lt k hk).2 (row5_ne3 h.own.2 h.path k hk)), h.fr.trans' hg (fun _ _ h => h) (fun j hj e => by have := (h.own.2.lt j e.symm).1; omega)⟩
theorem TextSt.alloc {w wr : World} {ap a : Option Addr} {cp n c : Nat} {bs : List UInt8} (h : TextSt w wr ap cp a n c bs) (o : Obj) : TextSt w (wr.alloc o) ap cp a n c bs :=
  ⟨⟨h.own.1, h.own.2.alloc o⟩, h.path.alloc o, h.fr.alloc o⟩
theorem TextSt.quiet {w wr w2 : World} {ap a : Option Addr} {cp n c : Nat} {bs : List UInt8} (h : TextSt w wr ap cp a n c bs) (f : Fr (fun _ => False) wr w2) : TextSt w w2 ap cp a n c bs :=
  ⟨⟨h.own.1, ownsRow_heap h.own.2 (fun k hk => f.block k (h.own.2.lt k hk).2 (fun h => h))⟩, ownsRow_heap h.path (fun k hk => f.block k (h.path.lt k hk).2 (fun h => h)), h.fr.trans f⟩

theorem lf_len (k : Nat) : (lf k).length ≤ 5 := by unfold lf; simp; omega
theorem lf_step (k d : Nat) (hk : k < 3) (hd : d = k + 1) (h0 : 0 < k) : lf k ++ [46] ++ [UInt8.ofNat (48 + d)] = lf (k + 1) := by
  subst hd
  obtain rfl | rfl : k = 1 ∨ k = 2 := by omega
  · decide
  · decide
theorem lf_first : ([] : List UInt8) ++ [UInt8.ofNat (48 + 1)] = lf 1 := by decide
theorem TextSt.place {w wr : World} {ap a : Option Addr} {cp n c k d : Nat} {bs : List UInt8} (h : TextSt w wr ap cp a n c bs) (hk : k < 3) (hd : d = k + 1) : ∃ kp, ap = some ⟨kp, 0, none⟩ ∧ wr.cell? ⟨kp, k, none⟩ = some (.int .i64 (d : Int)) := by
  rcases h.path.2 with ⟨_, e⟩ | ⟨g, cap, cur, e, _⟩
  · omega
  · have e' := e
    simp only [Value.slice.injEq] at e'
    obtain ⟨rfl, _, rfl⟩ := e'
    refine ⟨g, rfl, ?_⟩
    rw [h.path.cellAt k (by omega)]
    subst hd
    obtain rfl | rfl | rfl : k = 0 ∨ k = 1 ∨ k = 2 := by omega
    · rfl
    · rfl
    · rfl
theorem b8_46 (bs : List UInt8) : B8 bs ++ [Value.int .u8 46] = B8 (bs ++ [46]) := by rw [B8_append]; rfl
theorem b8_32 (bs : List UInt8) : B8 bs ++ [Value.int .u8 32] = B8 (bs ++ [32]) := by rw [B8_append]; rfl

set_option maxRecDepth 100000 in
set_option maxHeartbeats 1000000 in
theorem text_123 (v : Value) (w : World) (hG : Glob w) (h : Wraps w [1, 2, 3] v (.iface 29 (.int .i64 9))) :
    Calls Tryd.prog 20 #[v] w fun e w' => e = .returned (.string ⟨#[49, 46, 50, 46, 51, 32, 114, 101, 103, 105, 115, 116, 101, 114]⟩) ∧ Fr (fun _ => False) w w' := by
  have HG : Hid (Glob w ∧ Wraps w [1, 2, 3] v (.iface 29 (.int .i64 9))) := ⟨hG, h⟩
  have C := path_any (noPlace_errno 9) [1, 2, 3] v w hG h (by simp)
  obtain ⟨Tv, xv, rfl⟩ := h.iface
  obtain ⟨i0, hi, hz0, hz1, hz2⟩ := info_parts Tryd.info5
  clear hG h
  go_enter Tryd.func20, Tryd.ntmps20
  go_wp2_with fail
  refine C.mono ?_
  rintro e w1 ⟨ap, cp, rfl, ho, hf, hfr⟩
  have S1 : Hid (TextSt w w1 ap cp none 0 0 []) := ⟨⟨rfl, World.ownsRow_nil _ _ _ _⟩, ho, hf⟩
  clear C ho hf hfr
  go_wp2_with fail
  go_loopg [3, 4, 5, 9] 3 (fun n ln i pl ix wr => ∃ k : Nat, n = 3 - k ∧ k ≤ 3 ∧ ix = .int .i64 k ∧ ∃ a c, ln = .slice a (lf k).length c ∧ Hid (TextSt w wr ap cp a (lf k).length c (lf k)))
  case atStart => exact ⟨0, rfl, by omega, rfl, none, 0, rfl, S1⟩
  case round =>
    obtain ⟨k, rfl, hk, rfl, a, c, rfl, hS⟩ := hrel
    by_cases hk3 : k < 3
    · obtain ⟨d, hd⟩ : ∃ d, d = k + 1 := ⟨_, rfl⟩
      obtain ⟨kp, rfl, hc⟩ := hS.out.place hk3 hd
      have HD : Hid (d = k + 1) := hd
      have d1 : (0 : Int) ≤ d := by omega
      have d2 : (d : Int) ≤ 3 := by omega
      have k1 : (k : Int) < 3 := by omega
      have k0' : (0 : Int) ≤ k := by omega
      have hdd : d = 1 ∨ d = 2 ∨ d = 3 := by omega
      have HDD : Hid (d = 1 ∨ d = 2 ∨ d = 3) := hdd
      have hll := lf_len k
      have HLL : Hid ((lf k).length ≤ 5) := hll
      have hBw := hS.out.fr.size
      clear hd hdd hll S1
      by_cases h0 : 0 < k
      · have h0' : (0 : Int) < k := by omega
        have hown := hS.out.own.2
        go_wp2_with (at_builtin; refine wpList_append_own _ rfl (.tmp 16) (.tmp 17) 55 rfl w.heap.size 5 i0 (.int .u8 0) 1 1 Tryd.underlying55 hi hz0 hz1 hz2 rfl (by decide) (.slice a (lf k).length c) (lf k).length (B8 (lf k)) rfl (hown.alloc _) ⟨wr.heap.size, 0, none⟩ 1 1 [.int .u8 46] rfl rfl (cell_one_new _ _ _) (one_cell _) ?c3 ?c4 ?c5 ?_)
        case c3 => unfold maxLen; have := HLL.out; omega
        case c4 => have := HLL.out; omega
        case c5 => simp; omega
        intro v' w2 hown' hgrow hnil
        obtain ⟨a2, c2, rfl⟩ := ownsRow_slice hown'
        have el : (lf k ++ [46]).length = (lf k).length + 1 := by simp
        have S2 : Hid (TextSt w w2 (some ⟨kp, 0, none⟩) cp a2 (lf k ++ [46]).length c2 (lf k ++ [46])) := by
          rw [b8_46] at hown'
          refine (hS.out.alloc _).step (grew_of hgrow) rfl ?_
          rw [el]; exact hown'
        have D := appI_digit w.heap.size d HDD.out a2 c2 (lf k ++ [46]) w2 S2.out.own.2 S2.out.fr.size (by rw [el]; have := HLL.out; omega)
        rw [el] at D
        clear el hown' hgrow hnil hown hi
        go_wp2_with fail
        refine D.mono ?_
        rintro e w3 ⟨a3, c3, rfl, ho3, hg3⟩
        have S3 : Hid (TextSt w w3 (some ⟨kp, 0, none⟩) cp a3 (lf (k + 1)).length c3 (lf (k + 1))) := by
          have e1 := lf_step k d hk3 HD.out h0
          have e2 : (lf k).length + 1 + 1 = (lf (k + 1)).length := by rw [← e1]; simp
          rw [e1, e2] at ho3
          have el2 : (lf k ++ [(46 : UInt8)]).length = (lf k).length + 1 := by simp
          rw [← el2] at hg3
          have := S2.out.step hg3 rfl ho3
          exact this
        have e2 : (lf k).length + 1 + 1 = (lf (k + 1)).length := by rw [← lf_step k d hk3 HD.out h0]; simp
        rw [e2]
        clear D ho3 hg3 S2 hS e2
        go_wp2
        go_roundg (3 - (k + 1))
        case rel => exact ⟨k + 1, rfl, by omega, by go_num, a3, c3, rfl, S3⟩
        case measure => omega
      · obtain rfl : k = 0 := by omega
        have H0 : Hid (TextSt w wr (some ⟨kp, 0, none⟩) cp a 0 c []) := hS
        have D := appI_digit w.heap.size d HDD.out a c [] wr H0.out.own.2 H0.out.fr.size (by simp)
        have e0 : (lf 0).length = 0 := rfl
        rw [e0]
        have n0 : ¬ (0 : Int) < ((0 : Nat) : Int) := by omega
        clear hS e0 hi
        go_wp2_with fail
        refine D.mono ?_
        rintro e w3 ⟨a3, c3, rfl, ho3, hg3⟩
        have S3 : Hid (TextSt w w3 (some ⟨kp, 0, none⟩) cp a3 (lf 1).length c3 (lf 1)) := by
          have e1 : d = 1 := HD.out
          subst e1
          exact H0.out.step hg3 rfl ho3
        clear D ho3 hg3 H0
        go_wp2
        go_roundg (3 - 1)
        case rel => exact ⟨1, rfl, by omega, by go_num, a3, c3, rfl, S3⟩
        case measure => omega
    · obtain rfl : k = 3 := by omega
      have H0 : Hid (TextSt w wr ap cp a 5 c [49, 46, 50, 46, 51]) := hS
      have e0 : (lf 3).length = 5 := rfl
      rw [e0]
      have hown := H0.out.own.2
      have hBw := H0.out.fr.size
      clear hS e0 S1
      go_wp2_with (at_builtin; refine wpList_append_own _ rfl (.tmp 26) (.tmp 27) 55 rfl w.heap.size 5 i0 (.int .u8 0) 1 1 Tryd.underlying55 hi hz0 hz1 hz2 rfl (by decide) (.slice a 5 c) 5 (B8 [49, 46, 50, 46, 51]) rfl (hown.alloc _) ⟨wr.heap.size, 0, none⟩ 1 1 [.int .u8 32] rfl rfl (cell_one_new _ _ _) (one_cell _) ?c3 ?c4 ?c5 ?_)
      case c3 => unfold maxLen; omega
      case c4 => omega
      case c5 => simp; omega
      intro v' w2 hown' hgrow hnil
      obtain ⟨a2, c2, rfl⟩ := ownsRow_slice hown'
      have S2 : Hid (TextSt w w2 ap cp a2 6 c2 [49, 46, 50, 46, 51, 32]) := by
        rw [b8_32] at hown'
        exact (H0.out.alloc _).step (grew_of hgrow) rfl hown'
      clear hown' hgrow hnil hown H0
      go_wp2_with fail
      refine (kind_any [1, 2, 3] (.iface Tv xv) 9 w2 (HG.out.1.keep S2.out.fr (fun h => h)) (HG.out.2.keep (fun k _ hk => S2.out.fr.block k (heap_lt hk) (fun h => h))).err).mono ?_
      rintro e w3 ⟨rfl, hf3⟩
      have S3 : Hid (TextSt w w3 ap cp a2 6 c2 [49, 46, 50, 46, 51, 32]) := S2.out.quiet hf3
      clear hf3 S2
      go_wp2_with fail
      refine (error_9 w3).mono ?_
      rintro e w4 ⟨rfl, hw4⟩
      obtain rfl := hw4.symm
      have hown3 := S3.out.own.2
      have hB3 := S3.out.fr.size
      generalize hrs : registerS = rs at *
      have HRS : Hid (rs.size = 8 ∧ strCells rs = B8 [114, 101, 103, 105, 115, 116, 101, 114]) := by subst hrs; exact ⟨rfl, by simp [strCells, registerS, B8]⟩
      clear hrs
      go_wp2_with (at_builtin; refine wpList_append_own_string _ rfl (.tmp 29) (.tmp 32) 55 9 rfl w.heap.size 5 i0 Tryd.underlying55 Tryd.underlying9 hi hz0 hz1 hz2 (.slice a2 6 c2) 6 (B8 [49, 46, 50, 46, 51, 32]) rfl hown3 rs rfl ?c6 ?c7 hB3 ?_)
      case c6 => have := HRS.out.1; unfold maxLen; omega
      case c7 => have := HRS.out.1; omega
      intro v' w5 hown' hgrow hnil
      obtain ⟨a5, c5, rfl⟩ := ownsRow_slice hown'
      rw [HRS.out.1] at hown'
      rw [HRS.out.1]
      have S5 : Hid (TextSt w w5 ap cp a5 14 c5 [49, 46, 50, 46, 51, 32, 114, 101, 103, 105, 115, 116, 101, 114]) := by
        rw [HRS.out.2, ← B8_append] at hown'
        exact S3.out.step (grew_of hgrow) rfl hown'
      have hst : (convert 55 9 (.slice a5 14 c5)).run Tryd.prog w5 = .ok (.string ⟨#[49, 46, 50, 46, 51, 32, 114, 101, 103, 105, 115, 116, 101, 114]⟩) w5 := by
        have ho := S5.out.own.2
        have ho' : w5.ownsRow 0 5 1 (.slice a5 14 c5) 14 (B8 [49, 46, 50, 46, 51, 32, 114, 101, 103, 105, 115, 116, 101, 114]) := ⟨ho.1, by
          rcases ho.2 with h | ⟨g, cap, cur, h1, _, h2⟩
          · exact .inl h
          · exact .inr ⟨g, cap, cur, h1, Nat.zero_le _, h2⟩⟩
        have hb := own_bs ho'
        refine conv_str [49, 46, 50, 46, 51, 32, 114, 101, 103, 105, 115, 116, 101, 114] a5 c5 w5 ?_ ?_
        · rcases hb with ⟨h1, h2⟩ | h1
          · cases h2
          · exact .inr h1
        · intro e
          subst e
          rcases ho.2 with ⟨h1, h2⟩ | ⟨g, cap, cur, h1, _⟩
          · omega
          · cases h1
      clear hown' hgrow hnil hown3 S3 hi
      go_wp2
      go_ret
      exact ⟨rfl, S5.out.fr⟩
end Go.Proofs.YtcmmjkkpjclfgaaDoor
