import Derived.Test.YtidhcmhheohciaaDoorG02
import Derived.Deep.RegionHeld3
import Derived.Test.YtidhcmhheohciaaDoorG01
namespace Go.Proofs.YtidhcmhheohciaaDoor
open Go.RowKit
theorem Tryd.info3 : (Tryd.prog.info? 3).map (fun i => (i.zero, i.size, i.bytes)) = some (some (.int .i64 0), 1, 8) := by kernel_rfl
set_option maxRecDepth 100000 in
set_option maxHeartbeats 400000 in
theorem fail_any (g rb : Nat) (bs : List UInt8) (p q : Nat) (k : Int) (w : World) (h : Rdr w g rb bs p q) :
    Calls Tryd.prog 62 #[.pointer (some ⟨g, 0, none⟩), .int .i64 k] w fun e w' => ∃ v, e = .returned v ∧ Wraps w' [(p : Int)] v (.iface 32 (.int .i64 k)) ∧ Fr (fun _ => False) w w' := by
  have C := rat_any g rb bs p q w h
  have D := at_any [(p : Int)] 32 (.int .i64 k) (some ⟨w.heap.size, 0, none⟩) 1 (w.alloc (.cells #[.int .i64 (p : Int)] 3)) (.inr ⟨_, rfl, cell_one_new _ _ _⟩) (by simp)
  clear h
  go_enter Tryd.func62, Tryd.ntmps62
  go_wp2_with fail
  refine C.mono ?_
  rintro e w' ⟨rfl, rfl⟩
  clear C
  go_wp2_with fail
  refine D.mono ?_
  rintro e w' ⟨v, rfl, hv, hf⟩
  have HV : Hid (Wraps w' [(p : Int)] v (.iface 32 (.int .i64 k)) ∧ Fr (fun _ => False) w w') := ⟨hv, ((Fr.refl _ w).alloc _).trans hf⟩
  clear D hv hf
  go_wp2
  go_ret
  exact ⟨_, rfl, HV.out⟩
theorem and128_fin : ∀ x : Fin 256, (bits BinOp.and IntKind.u8 (x.val : Int) 128 != 0) = decide (128 ≤ x.val) := by decide +kernel
theorem and128 (c : Nat) (h : c < 256) : (bits BinOp.and IntKind.u8 (c : Int) 128 != 0) = decide (128 ≤ c) := and128_fin ⟨c, h⟩
theorem andNot128_fin : ∀ x : Fin 256, bits BinOp.andNot IntKind.u8 (x.val : Int) 128 = ((x.val % 128 : Nat) : Int) := by decide +kernel
theorem andNot128 (c : Nat) (h : c < 256) : bits BinOp.andNot IntKind.u8 (c : Int) 128 = ((c % 128 : Nat) : Int) := andNot128_fin ⟨c, h⟩
theorem pow128 (k : Nat) : (128 : Nat) ^ k = 2 ^ (7 * k) := by rw [Nat.pow_mul]
theorem num_le (k : Nat) (hk : k ≤ 8) : (128 : Nat) ^ k ≤ 72057594037927936 := by
  have := Nat.pow_le_pow_right (n := 128) (by omega) hk
  simpa using this
/-- a further byte's seven bits -/
theorem num_val (m k c : Nat) (hm : m < 128 ^ k) (hk : k ≤ 9) (hc : c < 256) (h9 : k = 9 → c = 1) :
    bits BinOp.or IntKind.u64 (m : Int) (IntKind.u64.wrap (IntKind.u64.wrap (bits BinOp.andNot IntKind.u8 (c : Int) 128) * 2 ^ (7 * k))) = ((m + c % 128 * 128 ^ k : Nat) : Int) := by
  have hb : c % 128 * 128 ^ k < 18446744073709551616 ∧ m < 18446744073709551616 := by
    by_cases h : k = 9
    · have := h9 h; subst this; subst h
      simp at hm ⊢; omega
    · have h1 := num_le k (by omega)
      have h2 : c % 128 * 128 ^ k ≤ 127 * 72057594037927936 := Nat.mul_le_mul (by omega) h1
      omega
  rw [andNot128 c hc, IntKind.wrap_u64, IntKind.wrap_u64]
  have e1 : ((c % 128 : Nat) : Int) % 18446744073709551616 = ((c % 128 : Nat) : Int) := by omega
  have e2 : ((c % 128 : Nat) : Int) * 2 ^ (7 * k) = ((c % 128 * 128 ^ k : Nat) : Int) := by rw [pow128]; push_cast; rfl
  rw [e1, e2]
  have e3 : ((c % 128 * 128 ^ k : Nat) : Int) % 18446744073709551616 = ((c % 128 * 128 ^ k : Nat) : Int) := by omega
  rw [e3, u64_or_nat _ _ hb.2 hb.1]
  have e4 : m ||| c % 128 * 128 ^ k = m + c % 128 * 128 ^ k := by
    have := Nat.two_pow_add_eq_or_of_lt (i := 7 * k) (b := m) (by rw [← pow128]; exact hm) (c % 128)
    rw [pow128, Nat.mul_comm (c % 128), Nat.or_comm, ← this, Nat.add_comm]
  rw [e4]
theorem num_lt (m k c : Nat) (hm : m < 128 ^ k) : m + c % 128 * 128 ^ k < 128 ^ (k + 1) := by
  have h1 : c % 128 * 128 ^ k ≤ 127 * 128 ^ k := Nat.mul_le_mul_right _ (by omega)
  rw [Nat.pow_succ]; omega
theorem ret3 {a b c a' b' c' : Value} (h1 : a = a') (h2 : b = b') (h3 : c = c') : Ending.returned (.tuple #[a, b, c]) = .returned (.tuple #[a', b', c']) := by rw [h1, h2, h3]
theorem int_eq {k : IntKind} {a b : Int} (h : a = b) : Value.int k a = .int k b := by rw [h]
/-- the loop of 'number' -/
def numGo : List UInt8 → Nat → Nat → Nat × Nat × Nat
  | [], _, _ => (0, 0, 2)
  | c :: r, i, n => if i = 9 ∧ c.toNat ≠ 1 then (0, 0, 3) else
      if 128 ≤ c.toNat then numGo r (i + 1) (n + c.toNat % 128 * 128 ^ i) else
      if c.toNat = 0 ∧ 0 < i then (0, 0, 3) else (n + c.toNat % 128 * 128 ^ i, i + 1, 0)
set_option maxRecDepth 100000 in
set_option maxHeartbeats 400000 in
theorem number_any (a : Option Addr) (c : Nat) (bs : List UInt8) (w : World) (h : Row w a (B8 bs)) (_hl : bs.length ≤ 140737488355328) :
    Calls Tryd.prog 74 #[.slice a bs.length c] w fun e w' => (∃ n s k : Nat, numGo bs 0 0 = (n, s, k) ∧ e = .returned (.tuple #[.int .u64 n, .int .i64 s, .int .i64 k])) ∧ w = w' := by
  have HR : Hid (Row w a (B8 bs)) := h
  clear h
  go_enter Tryd.func74, Tryd.ntmps74
  go_wp2
  go_loop [2, 9] (fun n i => ∃ k m : Nat, k ≤ bs.length ∧ k ≤ 9 ∧ m < 128 ^ k ∧ i = .int .i64 k ∧ n = .int .u64 m ∧ Hid (numGo bs 0 0 = numGo (bs.drop k) k m)) (fun _ i => bs.length - (intOf i).toNat)
  case atStart => exact ⟨0, 0, Nat.zero_le _, by omega, by simp, rfl, rfl, by simp [Hid]⟩
  case round =>
    obtain ⟨k, m, hk, hk9, hm, rfl, rfl, hr⟩ := hrel
    by_cases hlt : k < bs.length
    · have hp : (B8 bs)[k]? = some (.int .u8 (bs[k].toNat : Int)) := by simp [B8, hlt]
      obtain ⟨b, o, hx, hc⟩ := HR.out.at hp
      cases hx
      have HD : Hid (bs.drop k = bs[k] :: bs.drop (k + 1)) := List.drop_eq_getElem_cons hlt
      have hcb : bs[k].toNat < 256 := bs[k].toNat_lt
      generalize bs[k] = ch at *
      generalize hcn : ch.toNat = cn at *
      have HCN : Hid (ch.toNat = cn) := hcn
      clear hp hcn
      have HM : Hid (m < 128 ^ k) := hm
      clear hm
      have hlt' : (k : Int) < bs.length := by omega
      have hlt9 : k = 9 → cn = 1 → numGo bs 0 0 = (m + cn % 128 * 128 ^ k, k + 1, 0) := by
        intro h1 h2
        rw [hr.out, HD.out]
        simp [numGo, HCN.out, h1, h2]
      have HL9 : Hid (k = 9 → cn = 1 → numGo bs 0 0 = (m + cn % 128 * 128 ^ k, k + 1, 0)) := hlt9
      clear hlt9
      by_cases h9 : k = 9
      · have H9 : Hid (k = 9) := h9
        have h9' : ((k : Int) == 9) = true := by simp; omega
        by_cases h1 : cn = 1
        · have H1 : Hid (cn = 1) := h1
          have h1' : ((cn : Int) != 1) = false := by simp; omega
          have ha : (bits BinOp.and IntKind.u8 (cn : Int) 128 != 0) = false := by rw [and128 cn hcb]; simp; omega
          have hz' : ((cn : Int) == 0) = false := by simp; omega
          clear h9 h1
          go_wp2
          go_ret3
          refine ⟨⟨m + cn % 128 * 128 ^ k, k + 1, 0, HL9.out H9.out H1.out, ret3 (int_eq (num_val m k cn HM.out hk9 hcb (fun _ => H1.out))) (int_eq (by omega)) rfl⟩, rfl⟩
        · have h1' : ((cn : Int) != 1) = true := by simp; omega
          have H1 : Hid (¬ cn = 1) := h1
          clear h9 h1
          go_wp2
          go_ret3
          refine ⟨⟨0, 0, 3, ?_, rfl⟩, rfl⟩
          rw [hr.out, HD.out]
          have := H9.out
          simp [numGo, HCN.out, this]
          intro h; exact absurd h H1.out
      · have h9' : ((k : Int) == 9) = false := by simp; omega
        by_cases h128 : 128 ≤ cn
        · have ha : (bits BinOp.and IntKind.u8 (cn : Int) 128 != 0) = true := by rw [and128 cn hcb]; simp; omega
          go_wp2
          go_round
          case rel =>
            refine ⟨k + 1, m + cn % 128 * 128 ^ k, by omega, by omega, num_lt m k cn HM.out, by go_num, ?_, ?_⟩
            · rw [num_val m k cn HM.out hk9 hcb (fun h => absurd h h9)]
            · unfold Hid
              rw [hr.out, HD.out]
              simp [numGo, HCN.out, h9, h128]
          case measure => simp [intOf]; omega
        · have ha : (bits BinOp.and IntKind.u8 (cn : Int) 128 != 0) = false := by rw [and128 cn hcb]; simp; omega
          by_cases hz : cn = 0
          · by_cases hk0 : 0 < k
            · have hz' : ((cn : Int) == 0) = true := by simp; omega
              have HZ : Hid (cn = 0) := hz
              clear hz
              go_wp2
              go_ret3
              refine ⟨⟨0, 0, 3, ?_, rfl⟩, rfl⟩
              rw [hr.out, HD.out]
              simp [numGo, HCN.out, h9, HZ.out, hk0]
            · have hz' : ((cn : Int) == 0) = true := by simp; omega
              have HZ : Hid (cn = 0) := hz
              have hk0' : ¬ (0 : Int) < k := by omega
              clear hz
              go_wp2
              go_ret3
              refine ⟨⟨m + cn % 128 * 128 ^ k, k + 1, 0, ?_, ret3 (int_eq (num_val m k cn HM.out hk9 hcb (fun h => absurd h h9))) (int_eq (by omega)) rfl⟩, rfl⟩
              rw [hr.out, HD.out]
              simp [numGo, HCN.out, h9, h128, hk0]
          · have hz' : ((cn : Int) == 0) = false := by simp; omega
            go_wp2
            go_ret3
            refine ⟨⟨m + cn % 128 * 128 ^ k, k + 1, 0, ?_, ret3 (int_eq (num_val m k cn HM.out hk9 hcb (fun h => absurd h h9))) (int_eq (by omega)) rfl⟩, rfl⟩
            rw [hr.out, HD.out]
            simp [numGo, HCN.out, h9, h128, hz]
    · have hlt' : ¬ (k : Int) < bs.length := by omega
      go_wp2
      go_ret3
      refine ⟨⟨0, 0, 2, ?_, rfl⟩, rfl⟩
      rw [hr.out, List.drop_eq_nil_of_le (by omega)]
      rfl
end Go.Proofs.YtidhcmhheohciaaDoor
namespace Go.Proofs.YtidhcmhheohciaaDoor
open Go.RowKit
/-- what is left of a Reader's bytes -/
def leftOf (bs : List UInt8) (p q : Nat) : List UInt8 := (bs.take q).drop p
theorem left_length {bs : List UInt8} {p q : Nat} (h : q ≤ bs.length) : (leftOf bs p q).length = q - p := by simp [leftOf]; omega
theorem left_get {bs : List UInt8} {p q j : Nat} {u : Value} (h : (B8 (leftOf bs p q))[j]? = some u) : (B8 bs)[p + j]? = some u := by
  simp only [B8, leftOf, List.getElem?_map, List.getElem?_drop, List.getElem?_take] at h ⊢
  split at h
  · exact h
  · simp at h
/-- where all[p:q] begins -/
def sliceAt (rb p n : Nat) : Option Addr := if n = p then some ⟨rb, 0, none⟩ else some ⟨rb, p, none⟩
theorem left_row' {w : World} {rb : Nat} {bs : List UInt8} {p q : Nat} (hrow : w.heap[rb]? = some (rowObj bs)) (hqb : q ≤ bs.length) : Row w (sliceAt rb p bs.length) (B8 (leftOf bs p q)) := by
  unfold sliceAt
  split
  · rename_i e
    have e2 : leftOf bs p q = [] := List.eq_nil_of_length_eq_zero (by rw [left_length hqb]; omega)
    rw [e2]
    exact .inr ⟨_, rfl, by simp [B8]⟩
  · refine .inr ⟨_, rfl, fun j u hj => ?_⟩
    have := left_get hj
    have hr : w.heap[rb]? = some (Obj.cells (B8 bs).toArray 5 (0, 0)) := hrow
    have hc : w.cell? ⟨rb, p + j, none⟩ = some u := by
      simp only [World.cell?, hr]
      simpa using this
    by_cases hz : j = 0
    · subst hz; simpa [Addr.add] using hc
    · simpa [Addr.add, hz] using hc
theorem left_row {w : World} {g rb : Nat} {bs : List UInt8} {p q : Nat} (h : Rdr w g rb bs p q) : Row w (sliceAt rb p bs.length) (B8 (leftOf bs p q)) := left_row' h.row h.qb
theorem Row.bs {w : World} {a : Option Addr} {xs : List UInt8} (h : Row w a (B8 xs)) : Bs w a xs := by
  rcases h with ⟨h1, h2⟩ | h
  · exact .inl ⟨h1, List.eq_nil_of_length_eq_zero (by rw [← B8_length, h2]; rfl)⟩
  · exact .inr h
theorem number_val {w : World} {g rb : Nat} {bs : List UInt8} {p q n s k : Nat} (h : Rdr w g rb bs p q) (hn : numGo (leftOf bs p q) 0 0 = (n, s, k)) (j : Nat) :
    Calls Tryd.prog 74 #[.slice (if bs.length = p then some ⟨rb, 0, none⟩ else some ⟨rb, p, none⟩) (q - p) (bs.length - p)] (w.drewN j) fun e w' => e = .returned (.tuple #[.int .u64 n, .int .i64 s, .int .i64 k]) ∧ w' = w.drewN j := by
  have := number_any (sliceAt rb p bs.length) (bs.length - p) (leftOf bs p q) (w.drewN j) ((left_row h).keep (Fr.ofBelow (S := fun _ => False) ⟨rfl, rfl, rfl, Nat.le_refl _, fun _ _ => rfl⟩) (fun _ _ h => h)) (by rw [left_length h.qb]; have := h.qb; have := h.len; omega)
  rw [left_length h.qb] at this
  refine this.mono ?_
  rintro e w' ⟨⟨n', s', k', h1, rfl⟩, rfl⟩
  rw [hn] at h1
  cases h1
  exact ⟨rfl, rfl⟩
theorem numGo_size : ∀ (bs : List UInt8) (i n a s : Nat), numGo bs i n = (a, s, 0) → i < s ∧ s ≤ i + bs.length
  | [], i, n, a, s, h => by simp [numGo] at h
  | c :: r, i, n, a, s, h => by
    unfold numGo at h
    split at h
    · simp at h
    · split at h
      · have := numGo_size r (i + 1) _ a s h
        simp; omega
      · split at h
        · simp at h
        · simp at h; simp; omega
theorem Rdr.ne {w : World} {g rb : Nat} {bs : List UInt8} {p q : Nat} (h : Rdr w g rb bs p q) : rb ≠ g := by
  rintro rfl
  have h1 := h.obj
  rw [h.row] at h1
  simp [rowObj] at h1
theorem rdr_set {w W : World} {g rb : Nat} {bs : List UInt8} {p q p' : Nat} (h : Rdr w g rb bs p q) (hW : W.heap = w.heap) (hp : p' ≤ q) (z : Int) (hz : z = p') : Rdr (W.setCell ⟨g, 1, none⟩ (.int .i64 z)) g rb bs p' q := by
  subst hz
  refine ⟨?_, ?_, hp, h.qb, h.len⟩
  · have : W.heap[g]? = _ := (congrArg (·[g]?) hW).trans h.obj
    simp [World.setCell, Array.getElem?_modify, this]
  · rw [Below.heap_setCell _ _ _ _ h.ne, hW]; exact h.row
theorem fr_set {w W : World} {g : Nat} (hw : Below w.heap.size w W) (o : Nat) (v : Value) : Fr (fun k => k = g) w (W.setCell ⟨g, o, none⟩ v) := (Fr.ofBelow (S := fun k => k = g) hw).setCell ⟨g, o, none⟩ (fun _ => rfl) _
theorem below_drewN' (w : World) (n B : Nat) : Below B w (w.drewN n) := ⟨rfl, rfl, rfl, Nat.le_refl _, fun _ _ => rfl⟩
set_option maxRecDepth 100000 in
set_option maxHeartbeats 400000 in
theorem ruint_ok (g rb : Nat) (bs : List UInt8) (p q : Nat) (most : Int) (n s : Nat) (w : World) (h : Rdr w g rb bs p q) (hn : numGo (leftOf bs p q) 0 0 = (n, s, 0)) (hm : (n : Int) ≤ most) :
    Calls Tryd.prog 69 #[.pointer (some ⟨g, 0, none⟩), .int .u64 most] w fun e w' => e = .returned (.tuple #[.int .u64 n, .nilIface]) ∧ Rdr w' g rb bs (p + s) q ∧ Fr (fun k => k = g) w w' := by
  have c0 := h.c0
  have c1 := h.c1
  have c2 := h.c2
  have C := number_val h hn
  have H : Hid (Rdr w g rb bs p q) := h
  have b1 : (p : Int) ≤ q := by have := h.pq; omega
  have b2 : (q : Int) ≤ bs.length := by have := h.qb; omega
  have b3 : (bs.length : Int) ≤ 140737488355328 := by have := h.len; omega
  have HN : Hid (numGo (leftOf bs p q) 0 0 = (n, s, 0)) := hn
  have hmI : ¬ most < (n : Int) := by omega
  have f1 := h.fz 1
  have bs1 : (s : Int) ≤ q - p := by have := numGo_size _ _ _ _ _ hn; rw [left_length h.qb] at this; have := h.pq; omega
  have HP : Hid (p + s ≤ q) := by have := h.pq; unfold Hid; omega
  clear h
  clear hn
  go_enter Tryd.func69, Tryd.ntmps69
  go_wp2
  go_quiet ((go_at_call 74; exact Calls.quiet_of_same (C _)))
  clear C
  go_wp2
  all_goals
    go_ret2
    exact ⟨rfl, rdr_set (W := w.drewN nq) H.out rfl HP.out _ (by omega), fr_set (below_drewN' _ _ _) _ _⟩
theorem Rdr.drewN {w : World} {g rb : Nat} {bs : List UInt8} {p q : Nat} (h : Rdr w g rb bs p q) (n : Nat) : Rdr (w.drewN n) g rb bs p q := ⟨h.obj, h.row, h.pq, h.qb, h.len⟩
theorem fr_drewN (w : World) (n : Nat) : Fr (fun _ => False) w (w.drewN n) := Fr.ofBelow (below_drewN' _ _ _)
set_option maxRecDepth 100000 in
set_option maxHeartbeats 400000 in
theorem ruint_bad (g rb : Nat) (bs : List UInt8) (p q : Nat) (most : Int) (n s k : Nat) (w : World) (h : Rdr w g rb bs p q) (hn : numGo (leftOf bs p q) 0 0 = (n, s, k)) (hk : k ≠ 0) :
    Calls Tryd.prog 69 #[.pointer (some ⟨g, 0, none⟩), .int .u64 most] w fun e w' => ∃ v, e = .returned (.tuple #[.int .u64 0, v]) ∧ Wraps w' [(p : Int)] v (.iface 32 (.int .i64 k)) ∧ Fr (fun _ => False) w w' := by
  have c0 := h.c0
  have c1 := h.c1
  have c2 := h.c2
  have C := number_val h hn
  have D := fun j => fail_any g rb bs p q k (w.drewN j) (h.drewN j)
  have b1 : (p : Int) ≤ q := by have := h.pq; omega
  have b2 : (q : Int) ≤ bs.length := by have := h.qb; omega
  have b3 : (bs.length : Int) ≤ 140737488355328 := by have := h.len; omega
  have hk' : ((k : Int) != 0) = true := by simp; omega
  clear hn h hk
  go_enter Tryd.func69, Tryd.ntmps69
  go_wp2
  go_quiet ((go_at_call 74; exact Calls.quiet_of_same (C _)))
  clear C
  go_wp2_with fail
  all_goals
    refine (D _).mono ?_
    rintro e w' ⟨v, rfl, hv, hf⟩
    have HV : Hid (Wraps w' [(p : Int)] v (.iface 32 (.int .i64 k)) ∧ Fr (fun _ => False) w w') := ⟨hv, (fr_drewN w _).trans hf⟩
    clear hv hf D
    go_wp2
    go_ret2
    exact ⟨v, rfl, HV.out⟩
set_option maxRecDepth 100000 in
set_option maxHeartbeats 400000 in
theorem ruint_high (g rb : Nat) (bs : List UInt8) (p q : Nat) (most : Int) (n s : Nat) (w : World) (h : Rdr w g rb bs p q) (hn : numGo (leftOf bs p q) 0 0 = (n, s, 0)) (hm : most < (n : Int)) :
    Calls Tryd.prog 69 #[.pointer (some ⟨g, 0, none⟩), .int .u64 most] w fun e w' => ∃ v, e = .returned (.tuple #[.int .u64 0, v]) ∧ Wraps w' [(p : Int)] v (.iface 32 (.int .i64 4)) ∧ Fr (fun _ => False) w w' := by
  have c0 := h.c0
  have c1 := h.c1
  have c2 := h.c2
  have C := number_val h hn
  have D := fun j => fail_any g rb bs p q 4 (w.drewN j) (h.drewN j)
  have b1 : (p : Int) ≤ q := by have := h.pq; omega
  have b2 : (q : Int) ≤ bs.length := by have := h.qb; omega
  have b3 : (bs.length : Int) ≤ 140737488355328 := by have := h.len; omega
  clear hn h
  go_enter Tryd.func69, Tryd.ntmps69
  go_wp2
  go_quiet ((go_at_call 74; exact Calls.quiet_of_same (C _)))
  clear C
  go_wp2_with fail
  all_goals
    refine (D _).mono ?_
    rintro e w' ⟨v, rfl, hv, hf⟩
    have HV : Hid (Wraps w' [(p : Int)] v (.iface 32 (.int .i64 4)) ∧ Fr (fun _ => False) w w') := ⟨hv, (fr_drewN w _).trans hf⟩
    clear hv hf D
    go_wp2
    go_ret2
    exact ⟨v, rfl, HV.out⟩
end Go.Proofs.YtidhcmhheohciaaDoor
namespace Go.Proofs.YtidhcmhheohciaaDoor
open Go.RowKit
theorem wpList_append_none {P : Program} (w : World) {ops : Array Oper} {rest : List Oper} {o : Oper} {a : Act} {Q : Exit → Act → World → Prop} (hgd : o.guard = none) (s x : Operand) (t : TypeId)
    (ho : o.op = .call { callee := .builtin .append, args := #[s, x], argTypes := #[t, t] }) (v : Value) (hs : a.eval s = v) (hx : a.eval x = .slice none 0 0)
    (hr : ∀ ty, (Builtin.append_ #[t, t] ty #[v, .slice none 0 0]).run P w = .ok v w) (h : wpList P ops Q rest (a.put o.dst v) w) : wpList P ops Q (o :: rest) a w := by
  refine wpList_plain hgd fun K hK => ?_
  unfold Oper.wp execOp
  simp only [ho, resolve, invoke, builtin, Sem.run_bind, Sem.run_pure, Result.andThen_ok, List.map_toArray, List.map_cons, List.map_nil, hs, hx, hr]
  exact hK _ _ h
set_option maxRecDepth 100000 in
set_option maxHeartbeats 400000 in
theorem wraw_any (g : Nat) (r : Option Nat) (bs xs : List UInt8) (a : Option Addr) (c : Nat) (w : World) (h : Wtr w g r bs) (hx : Bs w a xs) (hc : a = none → c = 0) (hl : bs.length + xs.length ≤ 1000000000) :
    Calls Tryd.prog 32 #[.pointer (some ⟨g, 0, none⟩), .slice a xs.length c] w fun e w' => e = .returned (.tuple #[]) ∧ WStep w w' g r (bs ++ xs) := by
  obtain ⟨v, hg, rfl, hne, hown⟩ := h
  have hcell : w.cell? ⟨g, 0, none⟩ = some v := by simp [World.cell?, hg]
  obtain ⟨i0, hi, hz0, hz1, hz2⟩ := info_parts Tryd.info5
  rcases hx with ⟨rfl, rfl⟩ | ⟨x, rfl, hx⟩
  · obtain rfl := hc rfl
    have hap : ∀ ty, (Builtin.append_ #[33, 33] ty #[v, .slice none 0 0]).run Tryd.prog w = .ok v w := fun ty => run_append_owned_none w 0 33 ty 5 i0 1 Tryd.underlying33 hi v _ _ hown
    have hfro : w.frozen? ⟨g, 0, none⟩ = false := by simp [World.frozen?, hg]
    have R : Hid (WStep w (w.setCell ⟨g, 0, none⟩ v) g v.ownBlock (bs ++ [])) := by
      refine ⟨v.ownBlock, ⟨v, setCell_heap_one hg, rfl, hne, ?_⟩, (Fr.refl _ w).setCell _ (fun _ => .inl rfl) _, .inl rfl⟩
      rw [List.append_nil]
      exact ownsRow_heap hown (fun k hk => Below.heap_setCell _ _ _ _ (fun e => hne (by rw [hk]; exact congrArg some e)))
    obtain ⟨av, cv, rfl⟩ := ownsRow_slice hown
    have HAP : Hid (∀ ty, (Builtin.append_ #[33, 33] ty #[.slice av bs.length cv, .slice none 0 0]).run Tryd.prog w = .ok (.slice av bs.length cv) w) := hap
    clear hi hg hown hc hap
    go_enter Tryd.func32, Tryd.ntmps32
    go_wp2_with (at_builtin; refine wpList_append_none _ rfl (.tmp 10) (.tmp 11) 33 rfl _ rfl rfl HAP.out ?_)
    go_end0
    exact ⟨rfl, R⟩
  · have HL : Hid (bs.length + xs.length ≤ 1000000000) := hl
    clear hl hc
    go_enter Tryd.func32, Tryd.ntmps32
    go_wp2_with (at_builtin; refine wpList_append_where _ rfl (.tmp 10) (.tmp 11) 33 rfl 5 i0 (.int .u8 0) 1 1 Tryd.underlying33 hi hz0 hz1 hz2 rfl (by decide) v bs.length (B8 bs) rfl hown x xs.length c (B8 xs) rfl (by rw [B8_length, Nat.mul_one]) hx (b8_one xs) ?c3 ?c4 ?_)
    case c3 => unfold maxLen; have := HL.out; omega
    case c4 => have := HL.out; omega
    intro a' c' w1 hown' hgrow hwh
    obtain ⟨hcell1, hfro1, R⟩ := wtr_after hg hne (Fr.refl _ w) hgrow (by simp) (B8_append bs xs).symm hown' rfl hwh
    clear hi hgrow hown hown' hg hwh hx
    go_wp2
    go_end0
    exact ⟨rfl, R⟩
/-- a Writer's bytes can be read at its row -/
theorem own_bs {w : World} {a : Option Addr} {n c : Nat} {xs : List UInt8} (h : w.ownsRow 0 5 1 (.slice a n c) n (B8 xs)) : Bs w a xs := by
  rcases h.2 with ⟨e, e2⟩ | ⟨g, cap, cur, e, _⟩
  · cases e
    have := h.1
    exact .inl ⟨rfl, List.eq_nil_of_length_eq_zero (by rw [B8_length] at this; omega)⟩
  · have e' := e
    simp only [Value.slice.injEq] at e'
    exact .inr ⟨_, e'.1, h.cells (g := g) (by rw [e]; rfl)⟩
set_option maxRecDepth 100000 in
set_option maxHeartbeats 400000 in
theorem bytes_any (g : Nat) (r : Option Nat) (bs : List UInt8) (w : World) (h : Wtr w g r bs) (hl : bs.length ≤ 1000000000) :
    Calls Tryd.prog 14 #[.pointer (some ⟨g, 0, none⟩)] w fun e w' => e = .returned (.slice (some ⟨w.heap.size, 0, none⟩) bs.length bs.length) ∧ w' = w.alloc (rowObj bs) := by
  obtain ⟨v, hg, rfl, hne, hown⟩ := h
  have hcell : w.cell? ⟨g, 0, none⟩ = some v := by simp [World.cell?, hg]
  obtain ⟨av, cv, rfl⟩ := ownsRow_slice hown
  have C := copied_any av cv bs w (own_bs hown) (by omega)
  clear hg hne hown hl
  go_enter Tryd.func14, Tryd.ntmps14
  go_wp2_with fail
  refine C.mono ?_
  rintro e w' ⟨rfl, rfl⟩
  clear C
  go_wp2
  go_ret
  exact ⟨rfl, rfl⟩
theorem raw_copy {w : World} {a : Option Addr} {bs : List UInt8} {p n c m : Nat} (hq : p + n ≤ bs.length) (hl : bs.length ≤ 140737488355328) (hm : m = n) (hr : Row w a (B8 (leftOf bs p (p + n)))) (i : Nat) :
    Calls Tryd.prog 40 #[.slice a m c] (w.drewN i) fun e w2 => e = .returned (.slice (some ⟨w.heap.size, 0, none⟩) n n) ∧ w2 = (w.drewN i).alloc (rowObj (leftOf bs p (p + n))) := by
  have hlen : (leftOf bs p (p + n)).length = n := by rw [left_length hq]; omega
  have := copied_any a c (leftOf bs p (p + n)) (w.drewN i) (hr.keep (fr_drewN w i) (fun _ _ h => h)).bs (by omega)
  rw [hlen] at this
  rw [hm]
  exact this
theorem raw_done {w : World} {g rb : Nat} {bs xs : List UInt8} {p q n i : Nat} (h : Rdr w g rb bs p q) (hn : p + n ≤ q) (z : Int) (hz : z = ((p + n : Nat) : Int)) :
    (((w.drewN i).alloc (rowObj xs)).setCell ⟨g, 1, none⟩ (.int .i64 z)).heap[w.heap.size]? = some (rowObj xs) ∧ Rdr (((w.drewN i).alloc (rowObj xs)).setCell ⟨g, 1, none⟩ (.int .i64 z)) g rb bs (p + n) q ∧ Fr (fun k => k = g) w (((w.drewN i).alloc (rowObj xs)).setCell ⟨g, 1, none⟩ (.int .i64 z)) := by
  have hgl := heap_lt h.obj
  have f1 : Fr (fun _ => False) w ((w.drewN i).alloc (rowObj xs)) := (fr_drewN w i).alloc _
  refine ⟨?_, rdr_set (h.keep f1 (fun h => h) (fun h => h)) rfl hn z hz, (f1.mono (T := fun k => k = g) (fun _ _ h => h.elim)).setCell ⟨g, 1, none⟩ (fun _ => rfl) _⟩
  rw [Below.heap_setCell _ _ _ _ (by simp; omega)]
  exact heap_alloc_new (w.drewN i) _
set_option maxRecDepth 100000 in
set_option maxHeartbeats 1000000 in
theorem rraw_ok (g rb : Nat) (bs : List UInt8) (p q n : Nat) (w : World) (h : Rdr w g rb bs p q) (hn : p + n ≤ q) :
    Calls Tryd.prog 47 #[.pointer (some ⟨g, 0, none⟩), .int .i64 (n : Int)] w fun e w' =>
      e = .returned (.tuple #[.slice (some ⟨w.heap.size, 0, none⟩) n n, .nilIface]) ∧ w'.heap[w.heap.size]? = some (rowObj (leftOf bs p (p + n))) ∧ Rdr w' g rb bs (p + n) q ∧ Fr (fun k => k = g) w w' := by
  have L := left_any g rb bs p q w h
  have c0 := h.c0
  have c1 := h.c1
  have f1 := h.fz 1
  have hgl := heap_lt h.obj
  have hfz : ∀ (i : Nat) (o : Obj), ((w.drewN i).alloc o).frozen? ⟨g, 1, none⟩ = false := fun i o => by
    rw [World.frozen?_alloc_old _ _ _ (Nat.ne_of_lt hgl)]; exact f1
  have b1 : (p : Int) ≤ q := by have := h.pq; omega
  have b2 : (q : Int) ≤ bs.length := by have := h.qb; omega
  have b3 : (bs.length : Int) ≤ 140737488355328 := by have := h.len; omega
  have hn0 : ¬ ((n : Int) < 0) := by omega
  have hnL : ¬ (((q - p : Nat) : Int) < (n : Int)) := by omega
  have b4 : (0 : Int) ≤ p := by omega
  have b5 : (0 : Int) ≤ n := by omega
  have b6 : (p : Int) + n ≤ bs.length := by omega
  have b7 : (p : Int) ≤ p + n := by omega
  have hws : IntKind.i64.wrap ((p : Int) + n) = p + n := by rw [IntKind.wrap_i64]; omega
  have HR : Hid (Row w (if bs.length = p then some ⟨rb, 0, none⟩ else some ⟨rb, p, none⟩) (B8 (leftOf bs p (p + n)))) := left_row' (q := p + n) h.row (by have := h.qb; omega)
  have HB : Hid (p + n ≤ bs.length ∧ bs.length ≤ 140737488355328) := ⟨by have := h.qb; omega, h.len⟩
  have H : Hid (Rdr w g rb bs p q ∧ p + n ≤ q) := ⟨h, hn⟩
  clear h
  by_cases hbp : bs.length = p
  · subst hbp
    have C := fun i => raw_copy (w := w) (a := some ⟨rb, 0, none⟩) (bs := bs) (p := bs.length) (n := n) (c := 0) (m := 0) HB.out.1 HB.out.2 (by omega) (by simpa using HR.out) i
    go_enter Tryd.func47, Tryd.ntmps47
    go_wp2_with fail
    refine L.mono ?_
    rintro e w' ⟨rfl, j, rfl⟩
    clear L
    go_wp2
    go_region_held3 (fun w' => w'.cell? ⟨g, 0, none⟩ = some (.slice (some ⟨rb, 0, none⟩) bs.length bs.length) ∧ w'.cell? ⟨g, 1, none⟩ = some (.int .i64 (bs.length : Int))) (go_keep) ((go_at_call 40; refine (C _).mono ?_; rintro e w2 ⟨rfl, rfl⟩))
    clear C
    go_wp2
    go_ret2
    exact ⟨rfl, raw_done H.out.1 H.out.2 _ (by omega)⟩
  · have C := fun i => raw_copy (w := w) (a := some ⟨rb, p, none⟩) (bs := bs) (p := p) (n := n) (c := bs.length - p) (m := ((p : Int) + n).toNat - p) HB.out.1 HB.out.2 (by omega) (by simpa [hbp] using HR.out) i
    go_enter Tryd.func47, Tryd.ntmps47
    go_wp2_with fail
    refine L.mono ?_
    rintro e w' ⟨rfl, j, rfl⟩
    clear L
    go_wp2
    go_region_held3 (fun w' => w'.cell? ⟨g, 0, none⟩ = some (.slice (some ⟨rb, 0, none⟩) bs.length bs.length) ∧ w'.cell? ⟨g, 1, none⟩ = some (.int .i64 (p : Int))) (go_keep) ((go_at_call 40; refine (C _).mono ?_; rintro e w2 ⟨rfl, rfl⟩))
    clear C
    go_wp2
    go_ret2
    exact ⟨rfl, raw_done H.out.1 H.out.2 _ (by omega)⟩
end Go.Proofs.YtidhcmhheohciaaDoor
namespace Go.Proofs.YtidhcmhheohciaaDoor
open Go.RowKit
theorem foldl_push (xs : List UInt8) (s : ByteArray) : (xs.map fun c => (c.toNat : Int)).foldl (fun (r : ByteArray) (n : Int) => r.push (UInt8.ofNat n.toNat)) s = ⟨s.data ++ xs.toArray⟩ := by
  induction xs generalizing s with
  | nil => simp
  | cons x xs ih =>
    simp only [List.map_cons, List.foldl_cons]
    rw [ih]
    have e : UInt8.ofNat ((x.toNat : Int)).toNat = x := by rw [Int.toNat_natCast]; exact UInt8.ofNat_toNat
    rw [e]
    simp [ByteArray.push]
theorem conv_str (xs : List UInt8) (a : Option Addr) (c : Nat) (w : World) (h : Row w a (B8 xs)) (hc : a = none → c = 0) :
    (convert 33 9 (.slice a xs.length c)).run Tryd.prog w = .ok (.string ⟨xs.toArray⟩) w := by
  rw [run_convert_bytes_string w 33 9 5 _ _ _ Tryd.underlying33 Tryd.underlying5 Tryd.underlying9]
  rcases h with ⟨rfl, h⟩ | ⟨x, rfl, h⟩
  · have e : xs = [] := List.eq_nil_of_length_eq_zero (by rw [← B8_length, h]; rfl)
    subst e
    obtain rfl := hc rfl
    rfl
  · have hl := run_loadCells_list (P := Tryd.prog) w x (B8 xs) h
    rw [B8_length] at hl
    have e : B8 xs = (xs.map fun c => (c.toNat : Int)).map (Value.int .u8) := by simp [B8]
    rw [e] at hl
    have := run_bytesToString w x xs.length c _ hl
    rw [this, foldl_push]
    simp
theorem rowObj_row {w : World} {k : Nat} {xs : List UInt8} (h : w.heap[k]? = some (rowObj xs)) : Row w (some ⟨k, 0, none⟩) (B8 xs) := by
  refine .inr ⟨_, rfl, fun j u hj => ?_⟩
  have h' : w.heap[k]? = some (Obj.cells (B8 xs).toArray 5 (0, 0)) := h
  have hc : w.cell? ⟨k, 0 + j, none⟩ = some u := by
    simp only [World.cell?, h']
    simpa using hj
  by_cases hz : j = 0
  · subst hz; simpa [Addr.add] using hc
  · simpa [Addr.add, hz] using hc
end Go.Proofs.YtidhcmhheohciaaDoor
namespace Go.Proofs.YtidhcmhheohciaaDoor
open Go.RowKit
set_option maxRecDepth 100000 in
set_option maxHeartbeats 400000 in
theorem rcopy_any (g rb : Nat) (bs : List UInt8) (p q : Nat) (w : World) (h : Rdr w g rb bs p q) :
    Calls Tryd.prog 45 #[.pointer (some ⟨g, 0, none⟩)] w fun e w' => e = .returned (.pointer (some ⟨w.heap.size, 0, none⟩)) ∧ ∃ j, w' = (w.drewN j).alloc (rdrObj rb bs p q) := by
  have c0 := h.c0
  have c1 := h.c1
  have c2 := h.c2
  clear h
  go_enter Tryd.func45, Tryd.ntmps45
  go_wp2
  go_region_held3 (fun w' => w'.cell? ⟨g, 0, none⟩ = some (.slice (some ⟨rb, 0, none⟩) bs.length bs.length) ∧ w'.cell? ⟨g, 1, none⟩ = some (.int .i64 (p : Int)) ∧ w'.cell? ⟨g, 2, none⟩ = some (.int .i64 (q : Int))) (go_keep) (fail)
  go_wp2
  go_ret
  exact ⟨rfl, 1, rfl⟩
theorem rdr_copy {w : World} {g rb : Nat} {bs : List UInt8} {p q j : Nat} (h : Rdr w g rb bs p q) : Rdr ((w.drewN j).alloc (rdrObj rb bs p q)) w.heap.size rb bs p q ∧ Fr (fun _ => False) w ((w.drewN j).alloc (rdrObj rb bs p q)) := by
  have f : Fr (fun _ => False) w ((w.drewN j).alloc (rdrObj rb bs p q)) := (fr_drewN w j).alloc _
  exact ⟨⟨heap_alloc_new (w.drewN j) _, f.heap h.row (fun h => h), h.pq, h.qb, h.len⟩, f⟩
theorem leb_short : ∀ (f q i m j : Nat), i + f = 9 → q < 128 ^ (f + 1) → j < (lebF f q).length → numGo ((lebF f q).take j) i m = (0, 0, 2)
  | 0, q, i, m, j, _, _, hj => by
    have : j = 0 := by simp [lebF] at hj; omega
    subst this; simp [numGo]
  | f + 1, q, i, m, j, hi, hq, hj => by
    cases j with
    | zero => simp [numGo]
    | succ j =>
      by_cases h : q < 128
      · rw [lebF_small _ _ h] at hj; simp at hj
      · have hb : 128 ≤ q := by omega
        rw [lebF_big f q hb] at hj ⊢
        rw [List.take_succ_cons]
        have e : (UInt8.ofNat (q % 128 + 128)).toNat = q % 128 + 128 := UInt8.toNat_ofNat_of_lt' (show q % 128 + 128 < 256 by omega)
        have h9 : ¬ i = 9 := by omega
        simp only [numGo, e, h9, false_and, if_false]
        rw [if_pos (by omega)]
        exact leb_short f (q / 128) (i + 1) _ j (by omega) (by rw [Nat.pow_succ] at hq; exact Nat.div_lt_of_lt_mul (by rw [Nat.mul_comm]; exact hq)) (by simp at hj; omega)
theorem leb_num : ∀ (f q i m : Nat) (zs : List UInt8), i + f = 9 → q < 128 ^ (f + 1) → (i = 9 → q = 1) → (0 < i → q ≠ 0) → (i < 9 → q * 128 ^ i < 18446744073709551616) →
    numGo (lebF f q ++ zs) i m = (m + q * 128 ^ i, i + (lebF f q).length, 0)
  | 0, q, i, m, zs, hi, hq, h1, h0, _ => by
    have : i = 9 := by omega
    have := h1 this
    subst this
    simp [lebF, numGo]
  | f + 1, q, i, m, zs, hi, hq, _, h0, hb => by
    have h9 : ¬ i = 9 := by omega
    by_cases h : q < 128
    · have e : (UInt8.ofNat q).toNat = q := UInt8.toNat_ofNat_of_lt' (show q < 256 by omega)
      rw [lebF_small _ _ h, List.cons_append, List.nil_append]
      simp only [numGo, e, h9, false_and, if_false]
      rw [if_neg (by omega), if_neg (by rintro ⟨h1, h2⟩; exact h0 h2 h1)]
      have : q % 128 = q := by omega
      simp [this]
    · have hbig : 128 ≤ q := by omega
      have e : (UInt8.ofNat (q % 128 + 128)).toNat = q % 128 + 128 := UInt8.toNat_ofNat_of_lt' (show q % 128 + 128 < 256 by omega)
      rw [lebF_big f q hbig, List.cons_append]
      simp only [numGo, e, h9, false_and, if_false]
      rw [if_pos (by omega)]
      have hp : q / 128 * 128 ^ (i + 1) ≤ q * 128 ^ i := by
        rw [Nat.pow_succ, Nat.mul_comm (128 ^ i), ← Nat.mul_assoc]
        exact Nat.mul_le_mul_right _ (Nat.div_mul_le_self q 128)
      have hlt : q * 128 ^ i < 18446744073709551616 := hb (by omega)
      have h10 : i + 1 = 9 → q / 128 = 1 := by
        intro h8
        have : i = 8 := by omega
        subst this
        simp at hlt
        omega
      rw [leb_num f (q / 128) (i + 1) _ zs (by omega) (by rw [Nat.pow_succ] at hq; exact Nat.div_lt_of_lt_mul (by rw [Nat.mul_comm]; exact hq)) h10 (fun _ => by omega) (fun _ => by omega)]
      have e2 : (q % 128 + 128) % 128 = q % 128 := by omega
      have e3 : q % 128 * 128 ^ i + q / 128 * 128 ^ (i + 1) = q * 128 ^ i := by
        rw [Nat.pow_succ, Nat.mul_comm (128 ^ i), ← Nat.mul_assoc, ← Nat.add_mul]
        congr 1
        omega
      simp only [e2, List.length_cons, Prod.mk.injEq, and_true]
      omega
set_option maxRecDepth 100000 in
set_option maxHeartbeats 400000 in
theorem rbyte_ok (g rb : Nat) (bs : List UInt8) (p q : Nat) (c : UInt8) (w : World) (h : Rdr w g rb bs p q) (hp : p < q) (hc : bs[p]? = some c) :
    Calls Tryd.prog 58 #[.pointer (some ⟨g, 0, none⟩)] w fun e w' => e = .returned (.tuple #[.int .u8 (c.toNat : Int), .nilIface]) ∧ Rdr w' g rb bs (p + 1) q ∧ Fr (fun k => k = g) w w' := by
  have L := left_any g rb bs p q w h
  have c0 := h.c0
  have c1 := h.c1
  have f1 := h.fz 1
  have hpc : w.cell? ⟨rb, p, none⟩ = some (.int .u8 (c.toNat : Int)) := by
    have := h.row
    simp only [World.cell?, this, rowObj]
    simp [B8, hc]
  have b1 : (p : Int) < q := by omega
  have b2 : (q : Int) ≤ bs.length := by have := h.qb; omega
  have b3 : (bs.length : Int) ≤ 140737488355328 := by have := h.len; omega
  have b4 : (0 : Int) ≤ p := by omega
  have b5 : ¬ ((q - p : Nat) : Int) = 0 := by omega
  have b5' : (((q - p : Nat) : Int) == 0) = false := by simpa using b5
  have H : Hid (Rdr w g rb bs p q ∧ p < q) := ⟨h, hp⟩
  clear h hc
  go_enter Tryd.func58, Tryd.ntmps58
  go_wp2_with fail
  refine L.mono ?_
  rintro e w' ⟨rfl, j, rfl⟩
  clear L b5
  go_wp2
  go_quiet (fail)
  go_wp2
  go_ret2
  exact ⟨rfl, rdr_set (W := w.drewN (j + nq)) H.out.1 rfl (by have := H.out.2; omega) _ (by simp), fr_set (below_drewN' _ _ _) _ _⟩
end Go.Proofs.YtidhcmhheohciaaDoor
namespace Go.Proofs.YtidhcmhheohciaaDoor
open Go.RowKit
theorem numGo_leb : ∀ (bs : List UInt8) (i m n s : Nat), i ≤ 9 → m < 128 ^ i → numGo bs i m = (n, s, 0) →
    i < s ∧ s - i ≤ bs.length ∧ n < 18446744073709551616 ∧ ∃ q, n = m + q * 128 ^ i ∧ (0 < i → q ≠ 0) ∧ lebF (9 - i) q = bs.take (s - i)
  | [], i, m, n, s, _, _, h => by simp [numGo] at h
  | c :: r, i, m, n, s, hi, hm, h => by
    have hc := c.toNat_lt
    have e0 : UInt8.ofNat c.toNat = c := UInt8.ofNat_toNat
    unfold numGo at h
    split at h
    · simp at h
    · rename_i h9
      split at h
      · rename_i h128
        have hi8 : i ≤ 8 := by
          rcases Nat.lt_or_ge i 9 with h | h
          · omega
          · have : i = 9 := by omega
            exact absurd ⟨this, by omega⟩ h9
        obtain ⟨a1, a2, a3, q', a4, a5, a6⟩ := numGo_leb r (i + 1) _ n s (by omega) (num_lt m i c.toNat hm) h
        have hq := a5 (by omega)
        refine ⟨by omega, by simp; omega, a3, c.toNat % 128 + 128 * q', ?_, fun _ => by omega, ?_⟩
        · rw [a4, Nat.pow_succ, Nat.add_mul]
          have : q' * (128 ^ i * 128) = 128 * q' * 128 ^ i := by rw [Nat.mul_comm 128 q', Nat.mul_assoc, Nat.mul_comm 128]
          omega
        · obtain ⟨f, hf⟩ : ∃ f, 9 - i = f + 1 := ⟨8 - i, by omega⟩
          have hf' : 9 - (i + 1) = f := by omega
          obtain ⟨t, ht⟩ : ∃ t, s - i = t + 1 := ⟨s - i - 1, by omega⟩
          have ht' : s - (i + 1) = t := by omega
          rw [hf'] at a6
          rw [ht'] at a6
          rw [hf, ht, lebF_big f _ (by omega), List.take_succ_cons]
          have e1 : (c.toNat % 128 + 128 * q') / 128 = q' := by omega
          have e2 : (c.toNat % 128 + 128 * q') % 128 + 128 = c.toNat := by omega
          rw [e1, e2, e0, a6]
      · rename_i h128
        split at h
        · simp at h
        · rename_i hz
          simp only [Prod.mk.injEq] at h
          obtain ⟨rfl, rfl, _⟩ := h
          refine ⟨by omega, by simp, ?_, c.toNat % 128, rfl, ?_, ?_⟩
          · by_cases h : i = 9
            · have h1 : c.toNat = 1 := by
                rcases Nat.eq_or_lt_of_le (Nat.le_refl c.toNat) with _ | h'
                · by_cases hh : c.toNat = 1
                  · exact hh
                  · exact absurd ⟨h, hh⟩ h9
                · omega
              subst h
              rw [h1]
              simp at hm ⊢
              omega
            · have h1 := num_le i (by omega)
              have h2 : c.toNat % 128 * 128 ^ i ≤ 127 * 72057594037927936 := Nat.mul_le_mul (by omega) h1
              omega
          · intro h0 he
            exact hz ⟨by omega, h0⟩
          · have e1 : c.toNat % 128 = c.toNat := by omega
            have e2 : i + 1 - i = 1 := by omega
            rw [e1, e2, lebF_small _ _ (by omega), e0]
            simp
theorem numGo_once {xs : List UInt8} {n s : Nat} (h : numGo xs 0 0 = (n, s, 0)) : s ≤ xs.length ∧ n < 18446744073709551616 ∧ lebF 9 n = xs.take s := by
  obtain ⟨_, a2, a3, q, a4, _, a6⟩ := numGo_leb xs 0 0 n s (by omega) (by simp) h
  have e : n = q := by simpa using a4
  subst e
  exact ⟨by omega, a3, by simpa using a6⟩
theorem numGo_bad : ∀ (bs : List UInt8) (i m n s k : Nat), numGo bs i m = (n, s, k) → k ≠ 0 → n = 0 ∧ s = 0
  | [], _, _, _, _, _, h, _ => by simp [numGo] at h; omega
  | c :: r, i, m, n, s, k, h, hk => by
    unfold numGo at h
    split at h
    · simp at h; omega
    · split at h
      · exact numGo_bad r _ _ n s k h hk
      · split at h
        · simp at h; omega
        · simp at h; omega
/-- a row of bytes of the call's own -/
structure NewB (w w' : World) (a : Option Addr) (c : Nat) (xs : List UInt8) : Prop where
  own : w'.ownsRow w.heap.size 5 1 (.slice a xs.length c) xs.length (B8 xs)
  fr : Fr (fun _ => False) w w'
theorem NewB.bs {w w' : World} {a : Option Addr} {c : Nat} {xs : List UInt8} (h : NewB w w' a c xs) (hx : xs ≠ []) : ∃ k, a = some ⟨k, 0, none⟩ ∧ ∀ j u, (B8 xs)[j]? = some u → w'.cell? ((⟨k, 0, none⟩ : Addr).add j) = some u := by
  rcases h.own.2 with ⟨e, e2⟩ | ⟨g, cap, cur, e, _⟩
  · exact absurd (List.eq_nil_of_length_eq_zero e2) hx
  · have e' := e
    simp only [Value.slice.injEq] at e'
    exact ⟨g, e'.1, h.own.cells (g := g) (by rw [e]; rfl)⟩
theorem NewB.row {w w' : World} {a : Option Addr} {c : Nat} {xs : List UInt8} (h : NewB w w' a c xs) : Row w' a (B8 xs) ∧ (a = none → c = 0) := by
  rcases h.own.2 with ⟨e, e2⟩ | ⟨g, cap, cur, e, _⟩
  · simp only [Value.slice.injEq] at e
    exact ⟨.inl ⟨e.1, by rw [List.eq_nil_of_length_eq_zero e2]; rfl⟩, fun _ => e.2.2⟩
  · have e' := e
    simp only [Value.slice.injEq] at e'
    exact ⟨.inr ⟨_, e'.1, h.own.cells (g := g) (by rw [e]; rfl)⟩, fun h => by rw [e'.1] at h; cases h⟩
theorem newB_one (w : World) (c : UInt8) : NewB w (w.alloc (.cells #[.int .u8 (c.toNat : Int)] 5)) (some ⟨w.heap.size, 0, none⟩) 1 [c] :=
  ⟨World.ownsRow_lit w #[.int .u8 (c.toNat : Int)] 1 (Nat.le_refl _) (by simp [maxLen]) rfl, (Fr.refl _ _).alloc _⟩
set_option maxRecDepth 100000 in
set_option maxHeartbeats 400000 in
theorem refu_any : ∀ (f n : Nat), n < 128 ^ (f + 1) → f ≤ 9 → n < 18446744073709551616 → ∀ w : World, Calls Tryd.prog 48 #[.int .u64 (n : Int)] w fun e w' => ∃ a c, e = .returned (.slice a (lebF f n).length c) ∧ NewB w w' a c (lebF f n) := by
  intro f
  induction f with
  | zero =>
    intro n hn _ h64 w
    have hlt : (n : Int) < 128 := by simp at hn; omega
    have HL : Hid (lebF 0 n = [UInt8.ofNat n] ∧ ((UInt8.ofNat n).toNat : Int) = n) := ⟨rfl, (low8 n (by omega)).symm⟩
    have h0 : (0 : Int) ≤ n := by omega
    clear hn h64
    go_enter Tryd.func48, Tryd.ntmps48
    go_wp2
    go_ret
    have := newB_one w (UInt8.ofNat n)
    rw [HL.out.2] at this
    exact ⟨_, _, rfl, this⟩
  | succ f ih =>
    intro n hn hf h64 w
    by_cases hlt : n < 128
    · have hlt' : (n : Int) < 128 := by omega
      have HL : Hid (lebF (f + 1) n = [UInt8.ofNat n] ∧ ((UInt8.ofNat n).toNat : Int) = n) := ⟨lebF_small _ _ hlt, (low8 n (by omega)).symm⟩
      have h0 : (0 : Int) ≤ n := by omega
      clear hn h64 ih
      go_enter Tryd.func48, Tryd.ntmps48
      go_wp2
      go_ret
      have := newB_one w (UInt8.ofNat n)
      rw [HL.out.2] at this
      rw [HL.out.1]
      exact ⟨_, _, rfl, this⟩
    · have hlt' : ¬ (n : Int) < 128 := by omega
      have HL : Hid (lebF (f + 1) n = [UInt8.ofNat (n % 128 + 128)] ++ lebF f (n / 128)) := lebF_big f n (by omega)
      have hll := lebF_length f (n / 128)
      have HLL : Hid (1 ≤ (lebF f (n / 128)).length ∧ (lebF f (n / 128)).length ≤ 10) := ⟨hll.1, by omega⟩
      obtain ⟨a, ha⟩ : ∃ a : Int, a = (n : Int) := ⟨_, rfl⟩
      obtain ⟨b, hb⟩ : ∃ b : Int, b = ((n / 128 : Nat) : Int) := ⟨_, rfl⟩
      have hab : a / 128 = b := by omega
      obtain ⟨x, hx⟩ : ∃ x : UInt8, x = UInt8.ofNat (n % 128 + 128) := ⟨_, rfl⟩
      have hxv : a % 128 + 128 = (x.toNat : Int) := by rw [hx, UInt8.toNat_ofNat']; omega
      have a0 : (0 : Int) ≤ a := by omega
      have a1 : 128 ≤ a := by omega
      have a2 : a < 18446744073709551616 := by omega
      have a3 : ¬ a < 128 := by omega
      have D := fun w => ih (n / 128) (by rw [Nat.pow_succ] at hn; omega) (by omega) (by omega) w
      rw [← hb] at D
      rw [← ha]
      rw [← hx] at HL
      obtain ⟨i0, hi, hz0, hz1, hz2⟩ := info_parts Tryd.info5
      generalize lebF f (n / 128) = ls at *
      clear hn hf h64 ih hlt hlt' hll ha hb hx
      go_enter Tryd.func48, Tryd.ntmps48
      go_wp2_with fail
      refine (D _).mono ?_
      rintro e w1 ⟨a1', c1', rfl, h1⟩
      have e1 : (w.alloc (.cells #[.int .u8 (x.toNat : Int)] 5)).heap.size = w.heap.size + 1 := World.size_alloc _ _
      have hne : ls ≠ [] := fun e => by have := HLL.out.1; rw [e] at this; simp at this
      obtain ⟨kb, rfl, hcells⟩ := h1.bs hne
      have hown : w1.ownsRow w.heap.size 5 1 (.slice (some ⟨w.heap.size, 0, none⟩) 1 1) 1 (B8 [x]) := by
        have := (newB_one w x).own
        exact ownsRow_heap this (fun k hk => h1.fr.block k (this.lt k hk).2 (fun h => h))
      have HF : Hid (Fr (fun _ => False) w w1) := ((Fr.refl _ w).alloc _).trans h1.fr
      have hB := HF.out.size
      clear D h1 e1 hne
      go_wp2_with (at_builtin; refine wpList_append_own _ rfl (.tmp 12) (.tmp 15) 33 rfl w.heap.size 5 i0 (.int .u8 0) 1 1 Tryd.underlying33 hi hz0 hz1 hz2 rfl (by decide) (.slice (some ⟨w.heap.size, 0, none⟩) 1 1) 1 (B8 [x]) rfl hown ⟨kb, 0, none⟩ ls.length c1' (B8 ls) rfl (by rw [B8_length, Nat.mul_one]) hcells (b8_one ls) ?c3 ?c4 hB ?_)
      case c3 => unfold maxLen; have := HLL.out; omega
      case c4 => have := HLL.out; omega
      intro v' w2 hown' hgrow hnil
      obtain ⟨a2', c2', rfl⟩ := ownsRow_slice hown'
      have el : 1 + ls.length = ([x] ++ ls).length := by simp; omega
      rw [el] at hown'
      have R : Hid (NewB w w2 a2' c2' ([x] ++ ls)) := by
        rw [← B8_append] at hown'
        exact ⟨hown', HF.out.grown hgrow (fun k hk hlt => by simp only [Value.ownBlock, Option.some.injEq] at hk; omega)⟩
      rw [el]
      clear el hown' hgrow hnil hown hi hcells
      generalize [x] ++ ls = zs at *
      go_wp2
      go_ret
      exact ⟨a2', c2', by rw [HL.out]; rfl, by rw [HL.out]; exact R⟩
/-- a number's bytes by the document -/
theorem refu_all (n : Nat) (h : n < 18446744073709551616) (w : World) : Calls Tryd.prog 48 #[.int .u64 (n : Int)] w fun e w' => ∃ a c, e = .returned (.slice a (lebF 9 n).length c) ∧ NewB w w' a c (lebF 9 n) :=
  refu_any 9 n (by omega) (by omega) h w
end Go.Proofs.YtidhcmhheohciaaDoor
namespace Go.Proofs.YtidhcmhheohciaaDoor
open Go.RowKit
/-- numbers' bytes, one behind the other -/
def lebs (xs : List Nat) : List UInt8 := xs.flatMap (lebF 9)
theorem lebs_app (a b : List Nat) : lebs (a ++ b) = lebs a ++ lebs b := by simp [lebs]
theorem lebs_cons (x : Nat) (b : List Nat) : lebs (x :: b) = lebF 9 x ++ lebs b := by simp [lebs]
theorem lebs_len (xs : List Nat) : (lebs xs).length ≤ 10 * xs.length := by
  induction xs with
  | nil => simp [lebs]
  | cons x t ih =>
    have := (lebF_length 9 x).2
    rw [lebs_cons, List.length_append, List.length_cons]; omega
theorem lebF_lebN (f : Nat) : ∀ n, n < 128 ^ (f + 1) → (lebF f n).length = lebN (f + 1) n := by
  induction f with
  | zero => intro n h; have : n < 128 := by simpa using h
            simp [lebF, lebN, this]
  | succ f ih =>
    intro n h
    by_cases hn : n < 128
    · rw [lebF_small _ _ hn, lebN, if_pos hn]; rfl
    · rw [lebF_big f n (by omega), lebN, if_neg hn, List.length_cons, ih (n / 128) (by rw [Nat.pow_succ] at h; exact Nat.div_lt_of_lt_mul (by rw [Nat.mul_comm]; exact h))]
theorem lebs_lebL (xs : List Nat) (h : ∀ x ∈ xs, x < 18446744073709551616) : (lebs xs).length = lebL xs := by
  induction xs with
  | nil => rfl
  | cons x t ih =>
    have h1 := lebF_lebN 9 x (by have := h x (by simp); omega)
    have h2 := ih (fun y hy => h y (by simp [hy]))
    rw [lebs_cons, List.length_append, h1, h2]
    simp [lebL]
/-- a bit of bytes; a bit set -/
def bitB (b : List UInt8) (x : Nat) : Bool := (b.getD (x / 8) 0).toNat.testBit (x % 8)
def setB (b : List UInt8) (x : Nat) : List UInt8 := b.set (x / 8) (UInt8.ofNat ((b.getD (x / 8) 0).toNat ||| 2 ^ (x % 8)))
theorem setB_len (b : List UInt8) (x : Nat) : (setB b x).length = b.length := by simp [setB]
theorem or_lt (c : UInt8) (j : Nat) (hj : j < 8) : c.toNat ||| 2 ^ j < 256 := by
  have h1 := c.toNat_lt
  have h2 : 2 ^ j < 2 ^ 8 := Nat.pow_lt_pow_right (by omega) hj
  exact Nat.or_lt_two_pow (n := 8) h1 h2
theorem bit_set (b : List UInt8) (x y : Nat) (hx : x / 8 < b.length) : bitB (setB b x) y = (decide (x = y) || bitB b y) := by
  unfold bitB setB
  by_cases e : x / 8 = y / 8
  · have h1 : (b.set (x / 8) (UInt8.ofNat ((b.getD (x / 8) 0).toNat ||| 2 ^ (x % 8)))).getD (y / 8) 0 = UInt8.ofNat ((b.getD (x / 8) 0).toNat ||| 2 ^ (x % 8)) := by
      rw [← e, List.getD_eq_getElem?_getD, List.getElem?_set_self hx]; rfl
    have h2 : (UInt8.ofNat ((b.getD (x / 8) 0).toNat ||| 2 ^ (x % 8))).toNat = (b.getD (x / 8) 0).toNat ||| 2 ^ (x % 8) := UInt8.toNat_ofNat_of_lt' (or_lt _ _ (by omega))
    rw [h1, h2, Nat.testBit_or, Nat.testBit_two_pow, Bool.or_comm, e]
    congr 1
    by_cases h : x = y
    · subst h; simp
    · have : ¬ x % 8 = y % 8 := by omega
      simp [h, this]
  · have h1 : (b.set (x / 8) (UInt8.ofNat ((b.getD (x / 8) 0).toNat ||| 2 ^ (x % 8)))).getD (y / 8) 0 = b.getD (y / 8) 0 := by
      rw [List.getD_eq_getElem?_getD, List.getElem?_set_ne e, ← List.getD_eq_getElem?_getD]
    have h2 : ¬ x = y := by rintro rfl; exact e rfl
    rw [h1]; simp [h2]
def foldB (b : List UInt8) (xs : List Int) : List UInt8 := xs.foldl (fun b x => setB b x.toNat) b
def plainB (m : Nat) (xs : List Int) : List UInt8 := foldB (List.replicate m 0) xs
theorem foldB_len (xs : List Int) : ∀ b, (foldB b xs).length = b.length := by
  induction xs with
  | nil => intro b; rfl
  | cons x t ih => intro b; show (foldB (setB b x.toNat) t).length = _; rw [ih, setB_len]
theorem plainB_len (m : Nat) (xs : List Int) : (plainB m xs).length = m := by unfold plainB; rw [foldB_len]; simp
theorem bit_fold (y : Nat) (xs : List Int) : ∀ b, (∀ x ∈ xs, x.toNat / 8 < b.length) → bitB (foldB b xs) y = (xs.any (fun x => x.toNat == y) || bitB b y) := by
  induction xs with
  | nil => intro b _; rfl
  | cons x t ih =>
    intro b h
    have h1 := ih (setB b x.toNat) (fun z hz => by rw [setB_len]; exact h z (by simp [hz]))
    show bitB (foldB (setB b x.toNat) t) y = _
    rw [h1, bit_set b _ y (h x (by simp)), List.any_cons]
    have e : (x.toNat == y) = decide (x.toNat = y) := rfl
    rw [e]
    cases decide (x.toNat = y) <;> cases t.any (fun x => x.toNat == y) <;> rfl
theorem bit_zero (m y : Nat) : bitB (List.replicate m 0) y = false := by
  unfold bitB
  have : (List.replicate m (0 : UInt8)).getD (y / 8) 0 = 0 := by
    rw [List.getD_eq_getElem?_getD, List.getElem?_replicate]; split <;> rfl
  rw [this]; simp
theorem right_mem {n : Int} {xs : List Int} : ∀ {l}, rightL n l xs = true → ∀ x ∈ xs, l ≤ x ∧ x < n := by
  induction xs with
  | nil => intro l _ x hx; simp at hx
  | cons y t ih =>
    intro l h x hx
    rw [rightL] at h
    split at h
    · exact absurd h (by simp)
    · rcases List.mem_cons.1 hx with rfl | hx
      · omega
      · have := ih h x hx; omega
theorem bit_plain {n : Nat} {xs : List Int} (h : rightL n 0 xs = true) (y : Nat) : bitB (plainB ((n + 7) / 8) xs) y = xs.any (fun x => x.toNat == y) := by
  unfold plainB
  rw [bit_fold y xs _ (fun x hx => by have := right_mem h x hx; simp; omega), bit_zero, Bool.or_false]
theorem setF_congr (h h' : Nat → Bool) (n : Nat) : ∀ a, (∀ y, a ≤ y → y < a + n → h y = h' y) → setF h a n = setF h' a n := by
  induction n with
  | zero => intro a _; rfl
  | succ n ih =>
    intro a e
    rw [setF, setF, e a (by omega) (by omega), ih (a + 1) (fun y h1 h2 => e y (by omega) (by omega))]
theorem right_mono {n : Int} {xs : List Int} {l l' : Int} (h : rightL n l xs = true) (hx : ∀ x ∈ xs, l' ≤ x) : rightL n l' xs = true := by
  cases xs with
  | nil => rfl
  | cons y t =>
    rw [rightL] at h ⊢
    split at h
    · exact absurd h (by simp)
    · rw [if_neg (by have := hx y (by simp); omega)]; exact h
/-- a set out of its members -/
theorem setF_any (n : Nat) (k : Nat) : ∀ (a : Nat) (xs : List Int), rightL n a xs = true → n ≤ a + k → setF (fun y => xs.any (fun x => x.toNat == y)) a k = xs := by
  induction k with
  | zero =>
    intro a xs h hk
    cases xs with
    | nil => rfl
    | cons x t => have := right_mem h x (by simp); omega
  | succ k ih =>
    intro a xs h hk
    cases xs with
    | nil =>
      have := ih (a + 1) [] rfl (by omega)
      rw [setF]; simpa using this
    | cons x t =>
      have hx := right_mem h x (by simp)
      have h0 := h
      rw [rightL] at h
      split at h
      · exact absurd h (by simp)
      · by_cases e : x = (a : Int)
        · subst e
          have h1 := ih (a + 1) t (by simpa using h) (by omega)
          rw [setF, if_pos (by simp)]
          congr 1
          refine Eq.trans (setF_congr _ _ _ _ ?_) h1
          intro y hy _
          have : ((a : Int).toNat == y) = false := beq_eq_false_iff_ne.2 (by omega)
          rw [List.any_cons, this, Bool.false_or]
        · have hno : (x :: t).any (fun x => x.toNat == a) = false := by
            rw [List.any_eq_false]
            intro z hz
            have hz2 : (a : Int) < z := by
              rcases List.mem_cons.1 hz with rfl | hz
              · omega
              · have := right_mem h z hz; omega
            simp; omega
          rw [setF, hno]
          exact ih (a + 1) (x :: t) (right_mono h0 (fun z hz => by
            rcases List.mem_cons.1 hz with rfl | hz
            · omega
            · have := right_mem h z hz; omega)) (by omega)
theorem setF_plain {n : Nat} {xs : List Int} (h : rightL n 0 xs = true) (k : Nat) (hk : n ≤ k) : setF (bitB (plainB ((n + 7) / 8) xs)) 0 k = xs := by
  rw [setF_congr _ _ k 0 (fun y _ _ => bit_plain h y)]
  exact setF_any n k 0 xs (by simpa using h) (by omega)
theorem bit_no {n : Nat} {xs : List Int} (h : rightL n 0 xs = true) (y : Nat) (hy : n ≤ y) : bitB (plainB ((n + 7) / 8) xs) y = false := by
  rw [bit_plain h, List.any_eq_false]
  intro x hx
  have := right_mem h x hx
  simp; omega
end Go.Proofs.YtidhcmhheohciaaDoor
namespace Go.Proofs.YtidhcmhheohciaaDoor
open Go.RowKit
theorem WStep.refl {w : World} {g : Nat} {r : Option Nat} {bs : List UInt8} (h : Wtr w g r bs) : WStep w w g r bs := ⟨r, h, Fr.refl _ _, .inl rfl⟩
set_option maxRecDepth 100000 in
set_option maxHeartbeats 4000000 in
theorem lay_any (g : Nat) (r : Option Nat) (bs : List UInt8) (xs : List Nat) (a : Option Addr) (c : Nat) (w : World) (h : Wtr w g r bs) (hx : ∀ w' : World, Fr (fun k => k = g ∨ some k = r) w w' → Ru w' a xs) (hl : xs.length ≤ 100000) (hb : bs.length ≤ 1000000) (hlt : ∀ x ∈ xs, x < 18446744073709551616) :
    Calls Tryd.prog 34 #[.pointer (some ⟨g, 0, none⟩), .slice a xs.length c] w fun e w' => e = .returned (.tuple #[]) ∧ WStep w w' g r (bs ++ lebs xs) := by
  have HX : Hid (∀ w' : World, Fr (fun k => k = g ∨ some k = r) w w' → Ru w' a xs) := hx
  have HLT : Hid (∀ x ∈ xs, x < 18446744073709551616) := hlt
  have H0 : Hid (WStep w w g r bs) := WStep.refl h
  clear hx hlt h
  go_enter Tryd.func34, Tryd.ntmps34
  go_wp2_with fail
  go_loopw [8] (fun s8 wr => ∃ k : Nat, s8 = .int .i64 k ∧ k ≤ xs.length ∧ Hid (WStep w wr g r (bs ++ lebs (xs.take k)))) (fun s8 _ => xs.length - (intOf s8).toNat)
  case atStart => exact ⟨0, rfl, Nat.zero_le _, by unfold Hid; simpa [lebs] using H0.out⟩
  case round =>
    obtain ⟨k, rfl, hk, h4⟩ := hrel
    by_cases hk2 : k = xs.length
    · subst hk2
      go_wp2
      go_end0
      exact ⟨rfl, by have := h4.out; rwa [List.take_length] at this⟩
    · have hlt : k < xs.length := by omega
      have hlt' : (k : Int) < xs.length := by omega
      obtain ⟨r1, t1, f1, x1⟩ := h4.out
      obtain ⟨ab, ao, rfl, hcell⟩ := (HX.out _ f1).at hlt
      have hq : (lebs (xs.take k)).length ≤ 10 * k := by have := lebs_len (xs.take k); rw [List.length_take] at this; omega
      have C := uint_any g r1 (bs ++ lebs (xs.take k)) (xs.getD k 0) wr t1 (HLT.out _ (by simp [hlt])) (by rw [List.length_append]; omega)
      have HE : Hid (bs ++ lebs (xs.take (k + 1)) = bs ++ lebs (xs.take k) ++ lebF 9 (xs.getD k 0)) := by
        unfold Hid
        rw [List.take_succ_eq_append_getElem hlt, lebs_app, show xs[k] = xs.getD k 0 by simp [hlt], List.append_assoc]
        simp [lebs]
      have HF : Hid (Fr (fun k => k = g ∨ some k = r) w wr ∧ RowTo w r r1) := ⟨f1, x1⟩
      clear h4 t1 f1 x1 hq
      generalize xs.getD k 0 = x at *
      go_wp2_with (go_at_call 52; refine C.mono ?_; rintro e w2 ⟨rfl, h2⟩; replace h2 := (hide (WStep.go HF.out.1 HF.out.2 h2)))
      go_round
      case rel => exact ⟨k + 1, by go_num, by omega, by unfold Hid; rw [HE.out]; exact h2.out⟩
      case measure => simp [intOf]; omega
end Go.Proofs.YtidhcmhheohciaaDoor
