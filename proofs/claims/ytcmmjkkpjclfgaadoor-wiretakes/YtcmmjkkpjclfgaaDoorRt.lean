import Derived.Test.YtcmmjkkpjclfgaaDoorLeb
namespace Go.Proofs.YtcmmjkkpjclfgaaDoor
open Go.RowKit

/-- what the document's Take tells, by what a number at that place is -/
def rtk (most : Int) (n s k : Nat) : Nat × Nat × Nat := if k ≠ 0 then (0, 0, k) else if most < (n : Int) then (0, 0, 4) else (n, s, 0)
def tri (x : Nat × Nat × Nat) : Value := .tuple #[.int .u64 (x.1 : Int), .int .i64 (x.2.1 : Int), .int .i64 (x.2.2 : Int)]
theorem rtk_bad {most : Int} {n s k : Nat} (h : k ≠ 0) : rtk most n s k = (0, 0, k) := if_pos h
theorem rtk_high {most : Int} {n s : Nat} (h : most < (n : Int)) : rtk most n s 0 = (0, 0, 4) := by unfold rtk; rw [if_neg (by simp), if_pos h]
theorem rtk_ok {most : Int} {n s : Nat} (h : ¬ most < (n : Int)) : rtk most n s 0 = (n, s, 0) := by unfold rtk; rw [if_neg (by simp), if_neg h]

theorem rt_val (m i cn : Nat) (hm : m < 128 ^ i) (hi : i ≤ 9) (hc : cn < 256) (h9 : i = 9 → cn ≤ 1) :
    IntKind.u64.wrap ((m : Int) + IntKind.u64.wrap ((cn : Int) % 128 * 2 ^ (7 * i))) = ((m + cn % 128 * 128 ^ i : Nat) : Int) := by
  have e : ((2 : Int) ^ (7 * i)) = ((128 ^ i : Nat) : Int) := by rw [pow128]; simp
  rw [e]
  have hb : cn % 128 * 128 ^ i + m < 18446744073709551616 := by
    by_cases h : i = 9
    · subst h
      have := h9 rfl
      have : cn % 128 ≤ 1 := by omega
      simp only [show (128 : Nat) ^ 9 = 9223372036854775808 from by decide] at hm ⊢
      omega
    · have h1 := num_le i (by omega)
      have h2 : cn % 128 * 128 ^ i ≤ 127 * 72057594037927936 := Nat.mul_le_mul (by omega) h1
      omega
  generalize 128 ^ i = q at *
  have e2 : (cn : Int) % 128 * (q : Int) = ((cn % 128 * q : Nat) : Int) := by simp
  rw [e2]
  generalize cn % 128 * q = r at *
  have w1 : IntKind.u64.wrap (r : Int) = r := by rw [IntKind.wrap_u64]; omega
  rw [w1]
  have w2 : IntKind.u64.wrap ((m : Int) + r) = (m : Int) + r := by rw [IntKind.wrap_u64]; omega
  rw [w2]
  omega
set_option maxRecDepth 100000 in
set_option maxHeartbeats 1000000 in
theorem reft_any (a : Option Addr) (c : Nat) (bs : List UInt8) (p : Nat) (most : Int) (w : World) (h : Row w a (B8 bs)) (hp : p ≤ bs.length) (hl : bs.length ≤ 200) (n s k : Nat) (hn : numGo (bs.drop p) 0 0 = (n, s, k)) :
    Calls Tryd.prog 90 #[.slice a bs.length c, .int .i64 (p : Int), .int .u64 most] w fun e w' => e = .returned (tri (rtk most n s k)) ∧ w = w' := by
  have HR : Hid (Row w a (B8 bs)) := h
  have HN : Hid (numGo (bs.drop p) 0 0 = (n, s, k)) := hn
  have hp0 : (0 : Int) ≤ p := by omega
  have hp1 : (p : Int) ≤ bs.length := by omega
  have hl1 : (bs.length : Int) ≤ 200 := by omega
  clear h hn
  go_enter Tryd.func90, Tryd.ntmps90
  go_wp2
  go_loop [9, 10, 11] (fun nv iv cv => ∃ i m : Nat, i ≤ 9 ∧ p + i ≤ bs.length ∧ m < 128 ^ i ∧ iv = .int .i64 i ∧ nv = .int .u64 m ∧ Hid (numGo (bs.drop p) 0 0 = numGo (bs.drop (p + i)) i m)) (fun _ i _ => 10 - (intOf i).toNat)
  case atStart => exact ⟨0, 0, by omega, by omega, by simp, rfl, rfl, rfl⟩
  case round =>
    obtain ⟨i, m, hi9, hpi, hm, rfl, rfl, hr⟩ := hrel
    have i0 : (0 : Int) ≤ i := by omega
    have i9 : (i : Int) < 10 := by omega
    by_cases hlt : p + i < bs.length
    · have hpc : (B8 bs)[p + i]? = some (.int .u8 (bs[p + i].toNat : Int)) := by simp [B8, hlt]
      obtain ⟨b, o, hx, hc⟩ := HR.out.at hpc
      cases hx
      have HD : Hid (bs.drop (p + i) = bs[p + i] :: bs.drop (p + (i + 1))) := List.drop_eq_getElem_cons hlt
      have hcb : bs[p + i].toNat < 256 := bs[p + i].toNat_lt
      generalize bs[p + i] = ch at *
      generalize hcn : ch.toNat = cn at *
      have HCN : Hid (ch.toNat = cn) := hcn
      clear hpc hcn
      have HM : Hid (m < 128 ^ i) := hm
      clear hm
      have hlt' : (p : Int) + i < bs.length := by omega
      have hge : ¬ (bs.length : Int) ≤ (p : Int) + i := by omega
      have hv : IntKind.u64.wrap ((m : Int) + IntKind.u64.wrap ((cn : Int) % 128 * 2 ^ (7 * i))) = ((m + cn % 128 * 128 ^ i : Nat) : Int) ∨ (i = 9 ∧ 1 < cn) := by
        by_cases hbad : i = 9 ∧ 1 < cn
        · exact .inr hbad
        · exact .inl (rt_val m i cn HM.out hi9 hcb (fun h => by omega))
      obtain ⟨v, hvv⟩ : ∃ v, v = m + cn % 128 * 128 ^ i := ⟨_, rfl⟩
      rw [← hvv] at hv
      have HV : Hid (v = m + cn % 128 * 128 ^ i) := hvv
      clear hvv
      have HI : Hid (i ≤ 9 ∧ p + i < bs.length) := ⟨hi9, hlt⟩
      have HStep : Hid (numGo (bs.drop p) 0 0 = numGo (ch :: bs.drop (p + (i + 1))) i m) := by rw [← HD.out]; exact hr
      by_cases hbad : i = 9 ∧ 1 < cn
      · have h9' : ((i : Int) == 9) = true := by simp; omega
        have h1' : (1 : Int) < cn := by omega
        have HB : Hid (i = 9 ∧ cn ≠ 1) := ⟨hbad.1, by omega⟩
        clear hbad hi9 hv
        go_wp2
        go_ret3
        refine ⟨?_, rfl⟩
        have e : (n, s, k) = (0, 0, 3) := by
          rw [← HN.out, HStep.out, numGo, if_pos ⟨HB.out.1, by rw [HCN.out]; exact HB.out.2⟩]
        obtain ⟨rfl, rfl, rfl⟩ : n = 0 ∧ s = 0 ∧ k = 3 := by simpa using e
        rw [rtk_bad (by omega)]
        rfl
      · have hv2 := hv.resolve_right hbad
        clear hv
        by_cases h128 : cn < 128
        · by_cases hz : cn = 0 ∧ 0 < i
          · have hz' : ((cn : Int) == 0) = true := by simp; omega
            have hi0 : (0 : Int) < i := by omega
            have e : (n, s, k) = (0, 0, 3) := by
              rw [← HN.out, HStep.out, numGo]
              split
              · rfl
              · rw [if_neg (by rw [HCN.out]; omega), if_pos (by rw [HCN.out]; exact hz)]
            obtain ⟨rfl, rfl, rfl⟩ : n = 0 ∧ s = 0 ∧ k = 3 := by simpa using e
            have H0 : Hid (cn = 0) := hz.1
            have h128' : (cn : Int) < 128 := by omega
            have hc1 : ¬ (1 : Int) < cn := by omega
            by_cases h9 : i = 9
            · have h9' : ((i : Int) == 9) = true := by simp; omega
              clear e hbad hz h9 hi9
              go_wp2
              go_ret3
              exact ⟨by rw [rtk_bad (by omega)]; rfl, rfl⟩
            · have h9' : ((i : Int) == 9) = false := by simp; omega
              clear e hbad hz h9 hi9
              go_wp2
              go_ret3
              exact ⟨by rw [rtk_bad (by omega)]; rfl, rfl⟩
          · have e : (n, s, k) = (v, i + 1, 0) := by
              rw [← HN.out, HStep.out, numGo, if_neg (by rw [HCN.out]; omega), if_neg (by rw [HCN.out]; omega), if_neg (by rw [HCN.out]; exact hz), HCN.out, HV.out]
            obtain ⟨rfl, rfl, rfl⟩ : n = v ∧ s = i + 1 ∧ k = 0 := by simpa using e
            have h128' : (cn : Int) < 128 := by omega
            have HZ : Hid (¬ (cn = 0 ∧ 0 < i)) := hz
            clear e HN hr HStep HV
            by_cases h9 : i = 9
            · have h9' : ((i : Int) == 9) = true := by simp; omega
              have hc1 : ¬ (1 : Int) < cn := by omega
              have hz' : ((cn : Int) == 0) = false := by simp; omega
              have HE : Hid ((i : Int) + 1 = ((i + 1 : Nat) : Int)) := by unfold Hid; omega
              by_cases hmost : most < (n : Int)
              · clear hbad hz h9 hi9
                go_wp2
                go_ret3
                exact ⟨by rw [rtk_high hmost]; rfl, rfl⟩
              · clear hbad hz h9 hi9
                go_wp2
                go_ret3
                exact ⟨by rw [rtk_ok (by omega)]; unfold tri; simp only; rw [← HE.out]; rfl, rfl⟩
            · have h9' : ((i : Int) == 9) = false := by simp; omega
              have HE : Hid ((i : Int) + 1 = ((i + 1 : Nat) : Int)) := by unfold Hid; omega
              by_cases hz0 : cn = 0
              · have hz' : ((cn : Int) == 0) = true := by simp; omega
                have hi0 : ¬ (0 : Int) < i := by omega
                by_cases hmost : most < (n : Int)
                · clear hbad hz h9 hi9 hz0
                  go_wp2
                  go_ret3
                  exact ⟨by rw [rtk_high hmost]; rfl, rfl⟩
                · clear hbad hz h9 hi9 hz0
                  go_wp2
                  go_ret3
                  exact ⟨by rw [rtk_ok (by omega)]; unfold tri; simp only; rw [← HE.out]; rfl, rfl⟩
              · have hz' : ((cn : Int) == 0) = false := by simp; omega
                by_cases hmost : most < (n : Int)
                · clear hbad hz h9 hi9 hz0
                  go_wp2
                  go_ret3
                  exact ⟨by rw [rtk_high hmost]; rfl, rfl⟩
                · clear hbad hz h9 hi9 hz0
                  go_wp2
                  go_ret3
                  exact ⟨by rw [rtk_ok (by omega)]; unfold tri; simp only; rw [← HE.out]; rfl, rfl⟩
        · have h9 : i ≠ 9 := by omega
          have h9' : ((i : Int) == 9) = false := by simp; omega
          have h128' : ¬ (cn : Int) < 128 := by omega
          have HR2 : Hid (numGo (bs.drop p) 0 0 = numGo (bs.drop (p + (i + 1))) (i + 1) v ∧ v < 128 ^ (i + 1)) := by
            refine ⟨?_, by rw [HV.out]; exact num_lt m i cn HM.out⟩
            rw [HStep.out, numGo, if_neg (by omega), if_pos (by rw [HCN.out]; omega), HCN.out, HV.out]
          have HI9 : Hid (i + 1 ≤ 9) := by unfold Hid; omega
          clear hbad h9 hi9
          go_wp2
          go_round
          case rel => exact ⟨i + 1, v, HI9.out, by have := HI.out; omega, HR2.out.2, by go_num, rfl, HR2.out.1⟩
          case measure => simp [intOf]; have := HI9.out; omega
    · have hge : (bs.length : Int) ≤ (p : Int) + i := by omega
      have e : (n, s, k) = (0, 0, 2) := by
        rw [← HN.out, hr.out, List.drop_eq_nil_of_le (by omega)]
        rfl
      obtain ⟨rfl, rfl, rfl⟩ : n = 0 ∧ s = 0 ∧ k = 2 := by simpa using e
      clear e
      go_wp2
      go_ret3
      exact ⟨by rw [rtk_bad (by omega)]; rfl, rfl⟩
end Go.Proofs.YtcmmjkkpjclfgaaDoor
