import Derived.Test.YtcmmjkkpjclfgaaDoorLays
namespace Go.Proofs.YtcmmjkkpjclfgaaDoor
open Go.RowKit

set_option maxRecDepth 100000 in
set_option maxHeartbeats 400000 in
theorem wsec_any (g : Nat) (r : Option Nat) (bs xs : List UInt8) (a : Option Addr) (c : Nat) (w : World) (h : Wtr w g r bs) (hx : ∀ w' : World, Fr (fun k => k = g ∨ some k = r) w w' → Row w' a (B8 xs)) (hc : a = none → c = 0) (hl : bs.length + xs.length ≤ 10000000) :
    Calls Tryd.prog 32 #[.pointer (some ⟨g, 0, none⟩), .slice a xs.length c] w fun e w' => e = .returned (.tuple #[]) ∧ WStep w w' g r (bs ++ lebF 9 xs.length ++ xs) := by
  have C := uint_any g r bs xs.length w h (by omega) (by omega)
  have HX : Hid ((∀ w' : World, Fr (fun k => k = g ∨ some k = r) w w' → Row w' a (B8 xs)) ∧ (a = none → c = 0)) := ⟨hx, hc⟩
  have HL : Hid (bs.length + xs.length ≤ 10000000) := hl
  have hl2 : (xs.length : Int) ≤ 10000000 := by omega
  clear h hx hc hl
  go_enter Tryd.func32, Tryd.ntmps32
  go_wp2_with fail
  refine C.mono ?_
  rintro e w1 ⟨rfl, h1⟩
  obtain ⟨r1, t1, f1, x1⟩ := h1
  have D := wraw_any g r1 (bs ++ lebF 9 xs.length) xs a c w1 t1 (HX.out.1 w1 f1).bs HX.out.2 (by have := (lebF_length 9 xs.length).2; have := HL.out; simp; omega)
  have HF : Hid (Fr (fun k => k = g ∨ some k = r) w w1 ∧ RowTo w r r1) := ⟨f1, x1⟩
  clear C t1 f1 x1
  go_wp2_with fail
  refine D.mono ?_
  rintro e w2 ⟨rfl, h2⟩
  have H2 : Hid (WStep w w2 g r (bs ++ lebF 9 xs.length ++ xs)) := WStep.go HF.out.1 HF.out.2 h2
  clear D h2 HF
  go_wp2
  go_end0
  exact ⟨rfl, H2⟩

set_option maxRecDepth 100000 in
set_option maxHeartbeats 400000 in
theorem rcopy_any (g rb : Nat) (bs : List UInt8) (p q : Nat) (w : World) (h : Rdr w g rb bs p q) :
    Calls Tryd.prog 43 #[.pointer (some ⟨g, 0, none⟩)] w fun e w' => e = .returned (.pointer (some ⟨w.heap.size, 0, none⟩)) ∧ ∃ j, w' = (w.drewN j).alloc (rdrObj rb bs p q) := by
  have c0 := h.c0
  have c1 := h.c1
  have c2 := h.c2
  clear h
  go_enter Tryd.func43, Tryd.ntmps43
  go_wp2
  go_region_held3 (fun w' => w'.cell? ⟨g, 0, none⟩ = some (.slice (some ⟨rb, 0, none⟩) bs.length bs.length) ∧ w'.cell? ⟨g, 1, none⟩ = some (.int .i64 (p : Int)) ∧ w'.cell? ⟨g, 2, none⟩ = some (.int .i64 (q : Int))) (go_keep) (fail)
  go_wp2
  go_ret
  exact ⟨rfl, 1, rfl⟩

theorem rdr_copy {w : World} {g rb : Nat} {bs : List UInt8} {p q j : Nat} (h : Rdr w g rb bs p q) : Rdr ((w.drewN j).alloc (rdrObj rb bs p q)) w.heap.size rb bs p q ∧ Fr (fun _ => False) w ((w.drewN j).alloc (rdrObj rb bs p q)) := by
  have f : Fr (fun _ => False) w ((w.drewN j).alloc (rdrObj rb bs p q)) := (fr_drewN w j).alloc _
  exact ⟨⟨heap_alloc_new (w.drewN j) _, f.heap h.row (fun h => h), h.pq, h.qb, h.len⟩, f⟩

set_option maxRecDepth 100000 in
set_option maxHeartbeats 400000 in
theorem rsec_bad (g rb : Nat) (bs : List UInt8) (p q : Nat) (n s k : Nat) (w : World) (h : Rdr w g rb bs p q) (hn : numGo (leftOf bs p q) 0 0 = (n, s, k)) (hk : k ≠ 0) :
    Calls Tryd.prog 37 #[.pointer (some ⟨g, 0, none⟩)] w fun e w' => ∃ v, e = .returned (.tuple #[.pointer none, v]) ∧ Wraps w' [(p : Int)] v (.iface 29 (.int .i64 k)) ∧ Fr (fun _ => False) w w' := by
  have C := rcopy_any g rb bs p q w h
  have H : Hid (Rdr w g rb bs p q ∧ numGo (leftOf bs p q) 0 0 = (n, s, k) ∧ k ≠ 0) := ⟨h, hn, hk⟩
  clear h hn hk
  go_enter Tryd.func37, Tryd.ntmps37
  go_wp2_with fail
  refine C.mono ?_
  rintro e w1 ⟨rfl, j, h1⟩
  have R1 : Rdr w1 w.heap.size rb bs p q ∧ Fr (fun _ => False) w w1 := by rw [h1]; exact rdr_copy H.out.1
  have HR : Hid (Rdr w1 w.heap.size rb bs p q ∧ Fr (fun _ => False) w w1) := R1
  clear C h1 R1
  go_wp2_with fail
  refine (ruint_bad w.heap.size rb bs p q 18446744073709551615 n s k w1 HR.out.1 H.out.2.1 H.out.2.2).mono ?_
  rintro e w2 ⟨v, rfl, hv, hf⟩
  obtain ⟨T, x, rfl⟩ := hv.iface
  have HV : Hid (Wraps w2 [(p : Int)] (.iface T x) (.iface 29 (.int .i64 k)) ∧ Fr (fun _ => False) w w2) := ⟨hv, HR.out.2.trans hf⟩
  clear hv hf HR
  go_wp2
  go_ret2
  exact ⟨_, rfl, HV.out⟩

set_option maxRecDepth 100000 in
set_option maxHeartbeats 400000 in
theorem rsec_short (g rb : Nat) (bs : List UInt8) (p q : Nat) (n s : Nat) (w : World) (h : Rdr w g rb bs p q) (hn : numGo (leftOf bs p q) 0 0 = (n, s, 0)) (hm : n < 18446744073709551616) (hs : q < p + s + n) :
    Calls Tryd.prog 37 #[.pointer (some ⟨g, 0, none⟩)] w fun e w' => ∃ v, e = .returned (.tuple #[.pointer none, v]) ∧ Wraps w' [(p : Int)] v (.iface 29 (.int .i64 2)) ∧ Fr (fun _ => False) w w' := by
  have C := rcopy_any g rb bs p q w h
  have H : Hid (Rdr w g rb bs p q ∧ numGo (leftOf bs p q) 0 0 = (n, s, 0) ∧ n < 18446744073709551616) := ⟨h, hn, hm⟩
  have hps : p + s ≤ q := by have := numGo_size _ _ _ _ _ hn; rw [left_length h.qb] at this; have := h.pq; omega
  have b0 : ((q - (p + s) : Nat) : Int) < n := by omega
  have b1 : ((q - (p + s) : Nat) : Int) ≤ 140737488355328 := by have := h.qb; have := h.len; omega
  clear h hn hm hs hps
  go_enter Tryd.func37, Tryd.ntmps37
  go_wp2_with fail
  refine C.mono ?_
  rintro e w1 ⟨rfl, j, h1⟩
  have HR : Hid (Rdr w1 w.heap.size rb bs p q ∧ Fr (fun _ => False) w w1 ∧ Rdr w1 g rb bs p q) := by
    have := rdr_copy (j := j) H.out.1
    rw [h1]; exact ⟨this.1, this.2, H.out.1.keep this.2 (fun h => h) (fun h => h)⟩
  clear C h1
  go_wp2_with fail
  refine (ruint_ok w.heap.size rb bs p q 18446744073709551615 n s w1 HR.out.1 H.out.2.1 (by have := H.out.2.2; omega)).mono ?_
  rintro e w2 ⟨rfl, hr2, hf2⟩
  have H2 : Hid (Rdr w2 w.heap.size rb bs (p + s) q ∧ Rdr w2 g rb bs p q ∧ Fr (fun _ => False) w w2) := by
    have hgl := heap_lt H.out.1.obj
    have hrl := heap_lt H.out.1.row
    exact ⟨hr2, HR.out.2.2.keep hf2 (by omega) (by omega), HR.out.2.1.trans' hf2 (fun _ _ h => h) (fun j hj h => by omega)⟩
  clear hr2 hf2 HR
  go_wp2_with fail
  refine (left_any w.heap.size rb bs (p + s) q w2 H2.out.1).mono ?_
  rintro e w3 ⟨rfl, j3, rfl⟩
  go_wp2_with fail
  refine (fail_any g rb bs p q 2 (w2.drewN j3) (H2.out.2.1.drewN j3)).mono ?_
  rintro e w4 ⟨v, rfl, hv, hf⟩
  have HV : Hid (Wraps w4 [(p : Int)] v (.iface 29 (.int .i64 2)) ∧ Fr (fun _ => False) w w4) := ⟨hv, H2.out.2.2.trans ((fr_drewN _ _).trans hf)⟩
  clear hv hf H2
  go_wp2
  go_ret2
  exact ⟨_, rfl, HV.out⟩

/-! numbers that are laid, and their beginnings -/
theorem leb_short : ∀ (f q i m j : Nat), i + f = 9 → q < 128 ^ (f + 1) → j < (lebF f q).length → numGo ((lebF f q).take j) i m = (0, 0, 2)
  | 0, q, i, m, j, _, _, hj => by
    have : j = 0 := by simp [lebF] at hj; omega
    subst this; simp [numGo]
  | f + 1, q, i, m, j, hi, hq, hj => by
    cases j with
    | zero => simp [numGo]
    | succ j =>
      by_cases h : q < 128
      · rw [lebF_small _ _ h] at hj; simp at hj
      · have hb : 128 ≤ q := by omega
        rw [lebF_big f q hb] at hj ⊢
        rw [List.take_succ_cons]
        have e : (UInt8.ofNat (q % 128 + 128)).toNat = q % 128 + 128 := UInt8.toNat_ofNat_of_lt' (show q % 128 + 128 < 256 by omega)
        have h9 : ¬ i = 9 := by omega
        simp only [numGo, e, h9, false_and, if_false]
        rw [if_pos (by omega)]
        exact leb_short f (q / 128) (i + 1) _ j (by omega) (by rw [Nat.pow_succ] at hq; exact Nat.div_lt_of_lt_mul (by rw [Nat.mul_comm]; exact hq)) (by simp at hj; omega)
theorem leb_num : ∀ (f q i m : Nat) (zs : List UInt8), i + f = 9 → q < 128 ^ (f + 1) → (i = 9 → q = 1) → (0 < i → q ≠ 0) → (i < 9 → q * 128 ^ i < 18446744073709551616) →
    numGo (lebF f q ++ zs) i m = (m + q * 128 ^ i, i + (lebF f q).length, 0)
  | 0, q, i, m, zs, hi, hq, h1, h0, _ => by
    have : i = 9 := by omega
    have := h1 this
    subst this
    simp [lebF, numGo]
  | f + 1, q, i, m, zs, hi, hq, _, h0, hb => by
    have h9 : ¬ i = 9 := by omega
    by_cases h : q < 128
    · have e : (UInt8.ofNat q).toNat = q := UInt8.toNat_ofNat_of_lt' (show q < 256 by omega)
      rw [lebF_small _ _ h, List.cons_append, List.nil_append]
      simp only [numGo, e, h9, false_and, if_false]
      rw [if_neg (by omega), if_neg (by rintro ⟨h1, h2⟩; exact h0 h2 h1)]
      have : q % 128 = q := by omega
      simp [this]
    · have hbig : 128 ≤ q := by omega
      have e : (UInt8.ofNat (q % 128 + 128)).toNat = q % 128 + 128 := UInt8.toNat_ofNat_of_lt' (show q % 128 + 128 < 256 by omega)
      rw [lebF_big f q hbig, List.cons_append]
      simp only [numGo, e, h9, false_and, if_false]
      rw [if_pos (by omega)]
      have hp : q / 128 * 128 ^ (i + 1) ≤ q * 128 ^ i := by
        rw [Nat.pow_succ, Nat.mul_comm (128 ^ i), ← Nat.mul_assoc]
        exact Nat.mul_le_mul_right _ (Nat.div_mul_le_self q 128)
      have hlt : q * 128 ^ i < 18446744073709551616 := hb (by omega)
      have h10 : i + 1 = 9 → q / 128 = 1 := by
        intro h8
        have : i = 8 := by omega
        subst this
        simp at hlt
        omega
      rw [leb_num f (q / 128) (i + 1) _ zs (by omega) (by rw [Nat.pow_succ] at hq; exact Nat.div_lt_of_lt_mul (by rw [Nat.mul_comm]; exact hq)) h10 (fun _ => by omega) (fun _ => by omega)]
      have e2 : (q % 128 + 128) % 128 = q % 128 := by omega
      have e3 : q % 128 * 128 ^ i + q / 128 * 128 ^ (i + 1) = q * 128 ^ i := by
        rw [Nat.pow_succ, Nat.mul_comm (128 ^ i), ← Nat.mul_assoc, ← Nat.add_mul]
        congr 1
        omega
      simp only [e2, List.length_cons, Prod.mk.injEq, and_true]
      omega
end Go.Proofs.YtcmmjkkpjclfgaaDoor
