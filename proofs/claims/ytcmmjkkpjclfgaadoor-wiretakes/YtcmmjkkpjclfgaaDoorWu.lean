import Derived.Test.YtcmmjkkpjclfgaaDoorWtr
namespace Go.Proofs.YtcmmjkkpjclfgaaDoor
open Go.RowKit

/-- a number's bytes, with fuel -/
def lebF : Nat → Nat → List UInt8
  | 0, n => [UInt8.ofNat n]
  | f + 1, n => if n < 128 then [UInt8.ofNat n] else UInt8.ofNat (n % 128 + 128) :: lebF f (n / 128)
theorem lebF_small (f n : Nat) (h : n < 128) : lebF f n = [UInt8.ofNat n] := by
  cases f with
  | zero => rfl
  | succ f => simp [lebF, h]
theorem lebF_big (f n : Nat) (h : 128 ≤ n) : lebF (f + 1) n = UInt8.ofNat (n % 128 + 128) :: lebF f (n / 128) := by
  have : ¬ n < 128 := by omega
  simp [lebF, this]
theorem lebF_length (f n : Nat) : 1 ≤ (lebF f n).length ∧ (lebF f n).length ≤ f + 1 := by
  induction f generalizing n with
  | zero => simp [lebF]
  | succ f ih =>
    have := ih (n / 128)
    by_cases h : n < 128
    · simp [lebF, h]
    · simp [lebF, h]; omega
/-- what holds at a round's head -/
def lebRel (n m f : Nat) (acc : List UInt8) : Prop := m < 128 ^ (f + 1) ∧ acc ++ lebF f m = lebF 9 n ∧ acc.length + f = 9
theorem lebRel_start (n : Nat) (h : n < 18446744073709551616) : lebRel n n 9 [] := ⟨by omega, by simp, by simp⟩
theorem lebRel_step {n m f : Nat} {acc : List UInt8} (h : lebRel n m f acc) (hm : 128 ≤ m) : ∃ f', f = f' + 1 ∧ lebRel n (m / 128) f' (acc ++ [UInt8.ofNat (m % 128 + 128)]) := by
  obtain ⟨h1, h2, h3⟩ := h
  cases f with
  | zero => simp at h1; omega
  | succ f =>
    refine ⟨f, rfl, ?_, ?_, ?_⟩
    · rw [Nat.pow_succ] at h1
      exact Nat.div_lt_of_lt_mul (by rw [Nat.mul_comm]; exact h1)
    · rw [lebF_big f m hm] at h2
      simpa using h2
    · simp; omega
theorem lebRel_end {n m f : Nat} {acc : List UInt8} (h : lebRel n m f acc) (hm : m < 128) : acc ++ [UInt8.ofNat m] = lebF 9 n := by
  rw [← h.2.1, lebF_small f m hm]
theorem or128_fin : ∀ x : Fin 256, bits BinOp.or IntKind.u8 (x.val : Int) 128 = ((UInt8.ofNat (x.val % 128 + 128)).toNat : Int) := by decide +kernel
theorem or128 (m : Nat) : bits BinOp.or IntKind.u8 ((m : Int) % 256) 128 = ((UInt8.ofNat (m % 128 + 128)).toNat : Int) := by
  have h := or128_fin ⟨m % 256, Nat.mod_lt _ (by decide)⟩
  have e1 : ((m : Int) % 256) = ((m % 256 : Nat) : Int) := by omega
  rw [e1, h]
  have e2 : m % 256 % 128 = m % 128 := by omega
  simp only [e2]
theorem low8 (m : Nat) (h : m < 128) : (m : Int) = ((UInt8.ofNat m).toNat : Int) := by
  rw [UInt8.toNat_ofNat_of_lt' (by omega : m < 256)]

set_option maxRecDepth 100000 in
set_option maxHeartbeats 400000 in
theorem uint_any (g : Nat) (r : Option Nat) (bs : List UInt8) (n : Nat) (w : World) (h : Wtr w g r bs) (hn : n < 18446744073709551616) (hl : bs.length ≤ 100000000) :
    Calls Tryd.prog 29 #[.pointer (some ⟨g, 0, none⟩), .int .u64 n] w fun e w' => e = .returned (.tuple #[]) ∧ WStep w w' g r (bs ++ lebF 9 n) := by
  have HST : Hid (WStep w w g r (bs ++ []) ∧ lebRel n n 9 []) := ⟨⟨r, by simpa using h, Fr.refl _ _, .inl rfl⟩, lebRel_start n hn⟩
  have HL : Hid (bs.length ≤ 100000000) := hl
  clear h hn hl
  go_enter Tryd.func29, Tryd.ntmps29
  go_wp2
  go_loopw [1] (fun t wr => ∃ (m f : Nat) (acc : List UInt8), t = .int .u64 m ∧ Hid (WStep w wr g r (bs ++ acc) ∧ lebRel n m f acc)) (fun t _ => (intOf t).toNat)
  case atStart => exact ⟨n, 9, [], rfl, HST⟩
  case round =>
    obtain ⟨m, f, acc, rfl, HS⟩ := hrel
    obtain ⟨⟨r1, ⟨v, hg, rfl, hne, hown⟩, fr1, hr1⟩, -⟩ := HS.out
    have hcell : wr.cell? ⟨g, 0, none⟩ = some v := by simp [World.cell?, hg]
    have hgl := heap_lt hg
    have HB : Hid ((bs ++ acc).length ≤ 100000009) := by have := HL.out; have h2 := HS.out.2.2.2; have : (bs ++ acc).length = bs.length + acc.length := by simp
                                                         unfold Hid; omega
    generalize hbs : bs ++ acc = b1 at *
    have HBS : Hid (bs ++ acc = b1) := hbs
    have HF : Hid (Fr (fun k => k = g ∨ some k = r) w wr ∧ RowTo w r v.ownBlock) := ⟨fr1, hr1⟩
    clear hbs fr1 hr1 HST
    obtain ⟨i0, hi, hz0, hz1, hz2⟩ := info_parts Tryd.info5
    by_cases hlt : (128 : Int) ≤ m
    · go_wp2_with (at_builtin; refine wpList_append_where _ rfl (.tmp 12) (.tmp 16) 55 rfl 5 i0 (.int .u8 0) 1 1 Tryd.underlying55 hi hz0 hz1 hz2 rfl (by decide) v b1.length (B8 b1) rfl (hown.alloc _) ⟨wr.heap.size, 0, none⟩ 1 1 [.int .u8 (bits BinOp.or IntKind.u8 (↑m % 256) 128)] rfl rfl ?c1 ?c2 ?c3 ?c4 ?_)
      case c1 => exact cell_one_new _ _ _
      case c2 => exact one_cell _
      case c3 => unfold maxLen; have := HB.out; omega
      case c4 => have := HB.out; omega
      intro a' c' w1 hown' hgrow hwh
      obtain ⟨hcell1, hfro1, R⟩ := wtr_after hg hne ((Fr.refl _ wr).alloc _) hgrow (by simp) (wtr_one b1 _ _ (or128 m)) hown' (by simp) hwh
      clear hi hgrow hown hown' hg hwh
      go_wp2
      go_roundw
      case rel =>
        obtain ⟨f', -, hf⟩ := lebRel_step HS.out.2 (by omega)
        exact ⟨m / 128, f', acc ++ [UInt8.ofNat (m % 128 + 128)], by go_num, ⟨by rw [← List.append_assoc, HBS.out]; exact WStep.go HF.out.1 HF.out.2 R, hf⟩⟩
      case measure => simp [intOf]; omega
    · go_wp2_with (at_builtin; refine wpList_append_where _ rfl (.tmp 26) (.tmp 29) 55 rfl 5 i0 (.int .u8 0) 1 1 Tryd.underlying55 hi hz0 hz1 hz2 rfl (by decide) v b1.length (B8 b1) rfl (hown.alloc _) ⟨wr.heap.size, 0, none⟩ 1 1 [.int .u8 ↑m] rfl rfl (cell_one_new _ _ _) (one_cell _) ?c3 ?c4 ?_)
      case c3 => unfold maxLen; have := HB.out; omega
      case c4 => have := HB.out; omega
      intro a' c' w1 hown' hgrow hwh
      obtain ⟨hcell1, hfro1, R⟩ := wtr_after hg hne ((Fr.refl _ wr).alloc _) hgrow (by simp) (wtr_one b1 _ _ (low8 m (by omega))) hown' (by simp) hwh
      clear hi hgrow hown hown' hg hwh
      go_wp2
      go_end0
      refine ⟨rfl, ?_⟩
      rw [← lebRel_end HS.out.2 (by omega), ← List.append_assoc, HBS.out]
      exact WStep.go HF.out.1 HF.out.2 R
end Go.Proofs.YtcmmjkkpjclfgaaDoor
