import Derived.Test.YtcmmjkkpjclfgaaDoorRdr
namespace Go.Proofs.YtcmmjkkpjclfgaaDoor
open Go.RowKit
theorem Tryd.info3 : (Tryd.prog.info? 3).map (fun i => (i.zero, i.size, i.bytes)) = some (some (.int .i64 0), 1, 8) := by kernel_rfl

set_option maxRecDepth 100000 in
set_option maxHeartbeats 400000 in
theorem fail_any (g rb : Nat) (bs : List UInt8) (p q : Nat) (k : Int) (w : World) (h : Rdr w g rb bs p q) :
    Calls Tryd.prog 83 #[.pointer (some ⟨g, 0, none⟩), .int .i64 k] w fun e w' => ∃ v, e = .returned v ∧ Wraps w' [(p : Int)] v (.iface 29 (.int .i64 k)) ∧ Fr (fun _ => False) w w' := by
  have C := rat_any g rb bs p q w h
  have D := at_any [(p : Int)] 29 (.int .i64 k) (some ⟨w.heap.size, 0, none⟩) 1 (w.alloc (.cells #[.int .i64 (p : Int)] 3)) (.inr ⟨_, rfl, cell_one_new _ _ _⟩) (by simp)
  clear h
  go_enter Tryd.func83, Tryd.ntmps83
  go_wp2_with fail
  refine C.mono ?_
  rintro e w' ⟨rfl, rfl⟩
  clear C
  go_wp2_with fail
  refine D.mono ?_
  rintro e w' ⟨v, rfl, hv, hf⟩
  have HV : Hid (Wraps w' [(p : Int)] v (.iface 29 (.int .i64 k)) ∧ Fr (fun _ => False) w w') := ⟨hv, ((Fr.refl _ w).alloc _).trans hf⟩
  clear D hv hf
  go_wp2
  go_ret
  exact ⟨_, rfl, HV.out⟩

theorem and128_fin : ∀ x : Fin 256, (bits BinOp.and IntKind.u8 (x.val : Int) 128 != 0) = decide (128 ≤ x.val) := by decide +kernel
theorem and128 (c : Nat) (h : c < 256) : (bits BinOp.and IntKind.u8 (c : Int) 128 != 0) = decide (128 ≤ c) := and128_fin ⟨c, h⟩
theorem andNot128_fin : ∀ x : Fin 256, bits BinOp.andNot IntKind.u8 (x.val : Int) 128 = ((x.val % 128 : Nat) : Int) := by decide +kernel
theorem andNot128 (c : Nat) (h : c < 256) : bits BinOp.andNot IntKind.u8 (c : Int) 128 = ((c % 128 : Nat) : Int) := andNot128_fin ⟨c, h⟩
theorem pow128 (k : Nat) : (128 : Nat) ^ k = 2 ^ (7 * k) := by rw [Nat.pow_mul]
theorem num_le (k : Nat) (hk : k ≤ 8) : (128 : Nat) ^ k ≤ 72057594037927936 := by
  have := Nat.pow_le_pow_right (n := 128) (by omega) hk
  simpa using this
/-- a further byte's seven bits -/
theorem num_val (m k c : Nat) (hm : m < 128 ^ k) (hk : k ≤ 9) (hc : c < 256) (h9 : k = 9 → c = 1) :
    bits BinOp.or IntKind.u64 (m : Int) (IntKind.u64.wrap (IntKind.u64.wrap (bits BinOp.andNot IntKind.u8 (c : Int) 128) * 2 ^ (7 * k))) = ((m + c % 128 * 128 ^ k : Nat) : Int) := by
  have hb : c % 128 * 128 ^ k < 18446744073709551616 ∧ m < 18446744073709551616 := by
    by_cases h : k = 9
    · have := h9 h; subst this; subst h
      simp at hm ⊢; omega
    · have h1 := num_le k (by omega)
      have h2 : c % 128 * 128 ^ k ≤ 127 * 72057594037927936 := Nat.mul_le_mul (by omega) h1
      omega
  rw [andNot128 c hc, IntKind.wrap_u64, IntKind.wrap_u64]
  have e1 : ((c % 128 : Nat) : Int) % 18446744073709551616 = ((c % 128 : Nat) : Int) := by omega
  have e2 : ((c % 128 : Nat) : Int) * 2 ^ (7 * k) = ((c % 128 * 128 ^ k : Nat) : Int) := by rw [pow128]; push_cast; rfl
  rw [e1, e2]
  have e3 : ((c % 128 * 128 ^ k : Nat) : Int) % 18446744073709551616 = ((c % 128 * 128 ^ k : Nat) : Int) := by omega
  rw [e3, u64_or_nat _ _ hb.2 hb.1]
  have e4 : m ||| c % 128 * 128 ^ k = m + c % 128 * 128 ^ k := by
    have := Nat.two_pow_add_eq_or_of_lt (i := 7 * k) (b := m) (by rw [← pow128]; exact hm) (c % 128)
    rw [pow128, Nat.mul_comm (c % 128), Nat.or_comm, ← this, Nat.add_comm]
  rw [e4]
theorem num_lt (m k c : Nat) (hm : m < 128 ^ k) : m + c % 128 * 128 ^ k < 128 ^ (k + 1) := by
  have h1 : c % 128 * 128 ^ k ≤ 127 * 128 ^ k := Nat.mul_le_mul_right _ (by omega)
  rw [Nat.pow_succ]; omega

theorem ret3 {a b c a' b' c' : Value} (h1 : a = a') (h2 : b = b') (h3 : c = c') : Ending.returned (.tuple #[a, b, c]) = .returned (.tuple #[a', b', c']) := by rw [h1, h2, h3]
theorem int_eq {k : IntKind} {a b : Int} (h : a = b) : Value.int k a = .int k b := by rw [h]

/-- the loop of 'number' -/
def numGo : List UInt8 → Nat → Nat → Nat × Nat × Nat
  | [], _, _ => (0, 0, 2)
  | c :: r, i, n => if i = 9 ∧ c.toNat ≠ 1 then (0, 0, 3) else
      if 128 ≤ c.toNat then numGo r (i + 1) (n + c.toNat % 128 * 128 ^ i) else
      if c.toNat = 0 ∧ 0 < i then (0, 0, 3) else (n + c.toNat % 128 * 128 ^ i, i + 1, 0)

set_option maxRecDepth 100000 in
set_option maxHeartbeats 400000 in
theorem number_any (a : Option Addr) (c : Nat) (bs : List UInt8) (w : World) (h : Row w a (B8 bs)) (_hl : bs.length ≤ 140737488355328) :
    Calls Tryd.prog 84 #[.slice a bs.length c] w fun e w' => (∃ n s k : Nat, numGo bs 0 0 = (n, s, k) ∧ e = .returned (.tuple #[.int .u64 n, .int .i64 s, .int .i64 k])) ∧ w = w' := by
  have HR : Hid (Row w a (B8 bs)) := h
  clear h
  go_enter Tryd.func84, Tryd.ntmps84
  go_wp2
  go_loop [2, 9] (fun n i => ∃ k m : Nat, k ≤ bs.length ∧ k ≤ 9 ∧ m < 128 ^ k ∧ i = .int .i64 k ∧ n = .int .u64 m ∧ Hid (numGo bs 0 0 = numGo (bs.drop k) k m)) (fun _ i => bs.length - (intOf i).toNat)
  case atStart => exact ⟨0, 0, Nat.zero_le _, by omega, by simp, rfl, rfl, by simp [Hid]⟩
  case round =>
    obtain ⟨k, m, hk, hk9, hm, rfl, rfl, hr⟩ := hrel
    by_cases hlt : k < bs.length
    · have hp : (B8 bs)[k]? = some (.int .u8 (bs[k].toNat : Int)) := by simp [B8, hlt]
      obtain ⟨b, o, hx, hc⟩ := HR.out.at hp
      cases hx
      have HD : Hid (bs.drop k = bs[k] :: bs.drop (k + 1)) := List.drop_eq_getElem_cons hlt
      have hcb : bs[k].toNat < 256 := bs[k].toNat_lt
      generalize bs[k] = ch at *
      generalize hcn : ch.toNat = cn at *
      have HCN : Hid (ch.toNat = cn) := hcn
      clear hp hcn
      have HM : Hid (m < 128 ^ k) := hm
      clear hm
      have hlt' : (k : Int) < bs.length := by omega
      have hlt9 : k = 9 → cn = 1 → numGo bs 0 0 = (m + cn % 128 * 128 ^ k, k + 1, 0) := by
        intro h1 h2
        rw [hr.out, HD.out]
        simp [numGo, HCN.out, h1, h2]
      have HL9 : Hid (k = 9 → cn = 1 → numGo bs 0 0 = (m + cn % 128 * 128 ^ k, k + 1, 0)) := hlt9
      clear hlt9
      by_cases h9 : k = 9
      · have H9 : Hid (k = 9) := h9
        have h9' : ((k : Int) == 9) = true := by simp; omega
        by_cases h1 : cn = 1
        · have H1 : Hid (cn = 1) := h1
          have h1' : ((cn : Int) != 1) = false := by simp; omega
          have ha : (bits BinOp.and IntKind.u8 (cn : Int) 128 != 0) = false := by rw [and128 cn hcb]; simp; omega
          have hz' : ((cn : Int) == 0) = false := by simp; omega
          clear h9 h1
          go_wp2
          go_ret3
          refine ⟨⟨m + cn % 128 * 128 ^ k, k + 1, 0, HL9.out H9.out H1.out, ret3 (int_eq (num_val m k cn HM.out hk9 hcb (fun _ => H1.out))) (int_eq (by omega)) rfl⟩, rfl⟩
        · have h1' : ((cn : Int) != 1) = true := by simp; omega
          have H1 : Hid (¬ cn = 1) := h1
          clear h9 h1
          go_wp2
          go_ret3
          refine ⟨⟨0, 0, 3, ?_, rfl⟩, rfl⟩
          rw [hr.out, HD.out]
          have := H9.out
          simp [numGo, HCN.out, this]
          intro h; exact absurd h H1.out
      · have h9' : ((k : Int) == 9) = false := by simp; omega
        by_cases h128 : 128 ≤ cn
        · have ha : (bits BinOp.and IntKind.u8 (cn : Int) 128 != 0) = true := by rw [and128 cn hcb]; simp; omega
          go_wp2
          go_round
          case rel =>
            refine ⟨k + 1, m + cn % 128 * 128 ^ k, by omega, by omega, num_lt m k cn HM.out, by go_num, ?_, ?_⟩
            · rw [num_val m k cn HM.out hk9 hcb (fun h => absurd h h9)]
            · unfold Hid
              rw [hr.out, HD.out]
              simp [numGo, HCN.out, h9, h128]
          case measure => simp [intOf]; omega
        · have ha : (bits BinOp.and IntKind.u8 (cn : Int) 128 != 0) = false := by rw [and128 cn hcb]; simp; omega
          by_cases hz : cn = 0
          · by_cases hk0 : 0 < k
            · have hz' : ((cn : Int) == 0) = true := by simp; omega
              have HZ : Hid (cn = 0) := hz
              clear hz
              go_wp2
              go_ret3
              refine ⟨⟨0, 0, 3, ?_, rfl⟩, rfl⟩
              rw [hr.out, HD.out]
              simp [numGo, HCN.out, h9, HZ.out, hk0]
            · have hz' : ((cn : Int) == 0) = true := by simp; omega
              have HZ : Hid (cn = 0) := hz
              have hk0' : ¬ (0 : Int) < k := by omega
              clear hz
              go_wp2
              go_ret3
              refine ⟨⟨m + cn % 128 * 128 ^ k, k + 1, 0, ?_, ret3 (int_eq (num_val m k cn HM.out hk9 hcb (fun h => absurd h h9))) (int_eq (by omega)) rfl⟩, rfl⟩
              rw [hr.out, HD.out]
              simp [numGo, HCN.out, h9, h128, hk0]
          · have hz' : ((cn : Int) == 0) = false := by simp; omega
            go_wp2
            go_ret3
            refine ⟨⟨m + cn % 128 * 128 ^ k, k + 1, 0, ?_, ret3 (int_eq (num_val m k cn HM.out hk9 hcb (fun h => absurd h h9))) (int_eq (by omega)) rfl⟩, rfl⟩
            rw [hr.out, HD.out]
            simp [numGo, HCN.out, h9, h128, hz]
    · have hlt' : ¬ (k : Int) < bs.length := by omega
      go_wp2
      go_ret3
      refine ⟨⟨0, 0, 2, ?_, rfl⟩, rfl⟩
      rw [hr.out, List.drop_eq_nil_of_le (by omega)]
      rfl
end Go.Proofs.YtcmmjkkpjclfgaaDoor
