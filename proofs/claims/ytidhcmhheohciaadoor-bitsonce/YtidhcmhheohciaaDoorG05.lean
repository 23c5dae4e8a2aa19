import Derived.Test.YtidhcmhheohciaaDoorG04
namespace Go.Proofs.YtidhcmhheohciaaDoor
open Go.RowKit
theorem NewB.base {w wr w' : World} {a : Option Addr} {c : Nat} {bs : List UInt8} (h : NewB wr w' a c bs) (f : Fr (fun _ => False) w wr) : NewB w w' a c bs := by
  refine ⟨⟨h.own.1, ?_⟩, f.trans h.fr⟩
  rcases h.own.2 with e | ⟨g, cap, cur, e, e2, e3⟩
  · exact .inl e
  · exact .inr ⟨g, cap, cur, e, Nat.le_trans f.size e2, e3⟩
/-- bytes more, of whatever row -/
theorem wpList_appBM {ops : Array Oper} {rest : List Oper} {o : Oper} {a : Act} {Q : Exit → Act → World → Prop} (w0 w1 wz : World) (hgd : o.guard = none) (s x : Operand)
    (ho : o.op = .call { callee := .builtin .append, args := #[s, x], argTypes := #[33, 33] })
    (a0 : Option Addr) (c0 : Nat) (bs : List UInt8) (hS : NewB w0 w1 a0 c0 bs) (hs : a.eval s = .slice a0 bs.length c0) (az : Option Addr) (cz : Nat) (zs : List UInt8) (hx : a.eval x = .slice az zs.length cz)
    (hz : NewB wz w1 az cz zs) (hl : bs.length + zs.length ≤ 1000000)
    (h : ∀ a' c' w', NewB w0 w' a' c' (bs ++ zs) → wpList Tryd.prog ops Q rest (a.put o.dst (.slice a' (bs ++ zs).length c')) w') : wpList Tryd.prog ops Q (o :: rest) a w1 := by
  rcases hz.own.2 with ⟨e, e2⟩ | ⟨g, cap, cur, e, e3, e4, e5⟩
  · have e' := e
    simp only [Value.slice.injEq] at e'
    obtain ⟨rfl, e6, rfl⟩ := e'
    have e7 : zs = [] := List.eq_nil_of_length_eq_zero e6
    subst e7
    rw [List.append_nil] at h
    rw [show ([] : List UInt8).length = 0 from rfl] at hx
    refine wpList_plain hgd fun K hK => ?_
    obtain ⟨i0, hi, hz0, hz1, hz2⟩ := info_parts Tryd.info5
    have hr := run_append_owned_none (P := Tryd.prog) (w := w1) w0.heap.size 33 o.type 5 i0 1 Tryd.underlying33 hi (.slice a0 bs.length c0) bs.length (B8 bs) hS.own
    unfold Oper.wp execOp
    simp only [ho, resolve, invoke, builtin, Sem.run_bind, Sem.run_pure, Result.andThen_ok, List.map_toArray, List.map_cons, List.map_nil, hs, hx, hr]
    exact hK _ _ (h a0 c0 w1 hS)
  · have e' := e
    simp only [Value.slice.injEq] at e'
    obtain ⟨rfl, -, -⟩ := e'
    exact wpList_appB w0 w1 hgd s x ho a0 c0 bs hS hs ⟨g, 0, none⟩ cz zs hx (hz.own.cells (g := g) (by rw [e]; rfl)) hl h
set_option maxRecDepth 100000 in
set_option maxHeartbeats 16000000 in
theorem rruns_any (n : Nat) (xs : List Int) (a : Option Addr) (c : Nat) (w : World) (hr : Ri w a xs) (hn : n ≤ 4096) (hR : rightL n 0 xs = true) :
    Calls Tryd.prog 24 #[.slice a xs.length c] w fun e w' => ∃ a' c', e = .returned (.slice a' (wayB n xs 2).length c') ∧ NewB w w' a' c' (wayB n xs 2) := by
  have HR := hide hr
  have HG := hide hR
  have hlen := right_len hR (by omega)
  have hl2 : xs.length ≤ n := by omega
  have hrl := runsG_len xs.length 0 xs
  obtain ⟨cnt, hcnt⟩ : ∃ cnt, cnt = (runsG xs.length 0 xs).length / 2 := ⟨_, rfl⟩
  have eA : runsA xs = cnt :: runsG xs.length 0 xs := by rw [runsA, hcnt]
  have hc2 : cnt ≤ xs.length := by omega
  have hW : wayB n xs 2 = [2] ++ lebF 9 cnt ++ lebs (runsG xs.length 0 xs) := by simp [wayB, eA, lebs_cons]
  have hLWL : (lebs (runsG xs.length 0 xs)).length ≤ 100000 := by
    have t := lebs_len (runsG xs.length 0 xs); omega
  obtain ⟨LW, hLW⟩ : ∃ LW, LW = lebs (runsG xs.length 0 xs) := ⟨_, rfl⟩
  rw [← hLW] at hW hLWL
  have HLW := hide hLW
  have HC := hide hcnt
  generalize wayB n xs 2 = WW at *
  clear hr hR hlen eA hrl hcnt hLW
  have hlc := (lebF_length 9 cnt).2
  have hnc := lebF_ne cnt
  have C0 := fun w => refu_all cnt (by omega) w
  generalize lebF 9 cnt = lc at *
  replace hW := hide hW
  go_enter Tryd.func24, Tryd.ntmps24
  go_wp2_with fail
  go_loopw [3, 4, 5, 6] (fun s3 s4 s5 s6 wr => ∃ (i r f : Nat) (ee l : Int) (bs : List UInt8) (a3 : Option Addr) (c3 : Nat), s6 = .int .i64 i ∧ s4 = .int .i64 r ∧ s5 = .int .i64 ee ∧ s3 = .slice a3 bs.length c3 ∧ i ≤ xs.length ∧ r ≤ i ∧ (r = 0 → l = 0) ∧ (0 < r → ee + 2 = l) ∧ 0 ≤ l ∧ l ≤ 4097 ∧ Hid ((xs.drop i).length ≤ f ∧ r + (runsG f l (xs.drop i)).length / 2 = cnt ∧ rightL n l (xs.drop i) = true ∧ NewB w wr a3 c3 bs ∧ bs ++ lebs (runsG f l (xs.drop i)) = LW)) (fun _ _ _ s6 _ => xs.length - (intOf s6).toNat)
  case atStart => exact ⟨0, 0, xs.length, 0, 0, [], none, 0, rfl, rfl, rfl, rfl, Nat.zero_le _, Nat.le_refl _, fun _ => rfl, fun h => absurd h (by omega), Int.le_refl _, by omega, ⟨by simp, by rw [HC.out]; simp, HG.out, NewB.nil w, by rw [HLW.out]; simp⟩⟩
  case round =>
    obtain ⟨i, r, f, ee, l, bs, a3, c3, rfl, rfl, rfl, rfl, hi, hri, hl0, hle, hl1, hl3, h4⟩ := hrel
    have hpl : bs.length ≤ 100000 := by
      have := congrArg List.length h4.out.2.2.2.2
      rw [List.length_append] at this; omega
    by_cases hi2 : i = xs.length
    · have hi3 : ¬ (i : Int) < xs.length := by omega
      have hrc : r = cnt ∧ bs = LW := by
        have t := h4.out
        rw [List.drop_of_length_le (by omega)] at t
        have e1 : runsG f l [] = [] := by cases f <;> rfl
        rw [e1] at t
        exact ⟨by simpa using t.2.1, by simpa [lebs] using t.2.2.2.2⟩
      obtain ⟨rfl, rfl⟩ := hrc
      have hN := hide h4.out.2.2.2.1
      have N0 : Hid (NewB wr (wr.alloc (.cells #[.int .u8 2] 5)) (some ⟨wr.heap.size, 0, none⟩) 1 [2]) := newB_one wr 2
      have HF0 : Hid (Fr (fun _ => False) wr (wr.alloc (.cells #[.int .u8 2] 5))) := (Fr.refl _ wr).alloc _
      have HL : Hid ([2] ++ lc ++ bs = [2] ++ lc ++ bs) := rfl
      have hbs2 := hpl
      clear h4 hl0 hle
      generalize hrs : ([2] ++ lc ++ bs) = RS at *
      have HRS := hide hrs
      have eR : Hid (WW = RS) := by unfold Hid; rw [hW.out, ← HRS.out]
      clear hrs HL
      go_wp2_with first | (go_at_call 48; refine (C0 _).mono ?_; rintro e4 w3 ⟨a4, c4, rfl, hN5⟩; clear C0; obtain ⟨kb, rfl, hcells⟩ := hN5.bs hnc; have N4 := N0.out.keep hN5.fr; clear hN5 N0) | (at_builtin; refine wpList_appB wr w3 rfl (.tmp 67) (.tmp 70) rfl (some ⟨wr.heap.size, 0, none⟩) 1 [2] N4 rfl ⟨kb, 0, none⟩ c4 lc rfl hcells (by simp; omega) ?_; intro a5 c5 w5 hS5; have N6 := hN.out.keep hS5.fr; have HB2 : ([2] ++ lc).length + bs.length ≤ 1000000 := (by simp; omega); generalize hb2 : [2] ++ lc = bs2 at *; clear N4 hcells) | (at_builtin; refine wpList_appBM wr w5 w rfl (.tmp 71) (.tmp 72) rfl a5 c5 bs2 hS5 rfl a3 c3 bs rfl N6 HB2 ?_; intro a7 c7 w7 hS7; rw [HRS.out] at hS7 ⊢; replace hS7 := hide hS7; clear N6 hS5)
      go_ret
      exact ⟨a7, c7, by rw [eR.out]; rfl, by rw [eR.out]; exact hS7.out.base hN.out.fr⟩
    · have hlt : i < xs.length := by omega
      have hlt' : (i : Int) < xs.length := by omega
      have HD : Hid (xs.drop i = xs.getD i 0 :: xs.drop (i + 1)) := by
        unfold Hid
        rw [List.drop_eq_getElem_cons hlt]; simp [hlt]
      have HRr := hide (HR.out.keep' (h4.out.2.2.2.1.fr.below (Nat.le_refl _) (fun _ h => h.elim)))
      obtain ⟨ab, ao, rfl, hcell⟩ := HRr.out.at hlt
      obtain ⟨h51, h52, h53, h54, h55⟩ := h4.out
      rw [HD.out] at h51 h52 h53 h55
      obtain ⟨t, ht⟩ : ∃ t, t = xs.drop (i + 1) := ⟨_, rfl⟩
      have HDT := hide ht.symm
      rw [← ht] at h51 h52 h53 h55
      obtain ⟨x, hx⟩ : ∃ x, x = xs.getD i 0 := ⟨_, rfl⟩
      rw [← hx] at h51 h52 h53 h55 hcell
      have HX := hide hx.symm
      obtain ⟨x0, x1, hG2⟩ : l ≤ x ∧ x < n ∧ rightL n (x + 1) t = true := by
        have q5 := h53
        rw [rightL] at q5
        split at q5
        · exact absurd q5 (by simp)
        · exact ⟨by omega, by omega, q5⟩
      have hrt := run_lt t (x + 1) hG2 (by omega)
      have hG3 := run_right n t (x + 1) hG2
      obtain ⟨f, rfl⟩ : ∃ f', f = f' + 1 := ⟨f - 1, by simp at h51; omega⟩
      rw [runsG] at h52 h55
      obtain ⟨rr, hrr⟩ : ∃ rr, rr = runL (x + 1) t := ⟨_, rfl⟩
      have htl : t.length = xs.length - (i + 1) := by rw [ht, List.length_drop]
      have hrl2 := runL_le t (x + 1)
      have HRUN := hide hrr
      rw [← hrr] at h52 h55 hrt hG3 hrl2
      obtain ⟨d, hd⟩ : ∃ d : Nat, (d : Int) = x - l := ⟨(x - l).toNat, by omega⟩
      have ed : (x - l).toNat = d := by omega
      have el2 : x + ((rr + 1 : Nat) : Int) + 1 = x + rr + 2 := by omega
      rw [ed, el2, lebs_cons, lebs_cons] at h55
      rw [ed, el2] at h52
      have hn4 : (n : Int) ≤ 4096 := by omega
      have C1 := fun w => refu_all d (by omega) w
      have C2 := fun w => refu_all rr (by omega) w
      have hll1 := (lebF_length 9 d).2
      have hll2 := (lebF_length 9 rr).2
      have hne1 := lebF_ne d
      have hne2 := lebF_ne rr
      generalize lebF 9 d = ls1 at *
      generalize lebF 9 rr = ls2 at *
      have HZ : Hid ((t.drop rr).length ≤ f ∧ r + 1 + (runsG f (x + rr + 2) (t.drop rr)).length / 2 = cnt ∧ rightL n (x + rr + 2) (t.drop rr) = true ∧ bs ++ ls1 ++ ls2 ++ lebs (runsG f (x + rr + 2) (t.drop rr)) = LW) := by
        refine ⟨by simp at h51 ⊢; omega, by simp only [List.length_cons] at h52; omega, by rw [← hG3]; congr 1; omega, by rw [← h55]; simp [List.append_assoc]⟩
      have hN3 := hide h54
      have HT := hide ht
      clear h4 h51 h52 h53 h54 h55 hG2 hG3 ed el2 ht hx hrr
      obtain ⟨w0, hw0⟩ : ∃ w0, w0 = wr := ⟨_, rfl⟩
      subst hw0
      have hxr : x + rr < n := by omega
      go_wp2_with fail
      go_loopw [7] (fun s7 w2 => ∃ j nn : Nat, w2 = w0.drewN nn ∧ s7 = .int .i64 (i + 1 + j : Nat) ∧ i + 1 + j ≤ xs.length ∧ Hid (j + runL (x + 1 + j) (xs.drop (i + 1 + j)) = rr ∧ xs.getD (i + j) 0 = x + j)) (fun s7 _ => xs.length - (intOf s7).toNat)
      case atStart => exact ⟨0, 0, rfl, rfl, by omega, ⟨by rw [HRUN.out]; simp [HDT.out], by simpa using HX.out⟩⟩
      case round =>
        obtain ⟨j, nn, rfl, rfl, hj, HIN⟩ := hrel
        by_cases hj2 : i + 1 + j = xs.length
        · have hjr : j = rr := by
            have t1 := HIN.out.1
            rw [List.drop_of_length_le (by omega)] at t1
            simpa [runL] using t1
          obtain rfl : rr = j := hjr.symm
          have HV := hide HIN.out.2
          have hkk : xs.length = i + 1 + rr := by omega
          obtain ⟨kl, hkl⟩ : ∃ kl, kl = i + rr := ⟨_, rfl⟩
          have ekl : (xs.length : Int) - 1 = kl := by omega
          have ekr : (xs.length : Int) - i - 1 = rr := by omega
          have hkl0 : (0 : Int) ≤ kl := by omega
          have hkl1 : (kl : Int) < xs.length := by omega
          have hkk1 : (xs.length : Int) ≤ 4096 := by omega
          have hkk2 : xs.length ≤ xs.length := by omega
          have hkk3 : i < xs.length := by omega
          have HCK : Hid (∀ w2, Ri w2 (some ⟨ab, ao, none⟩) xs → w2.cell? ⟨ab, ao + kl, none⟩ = some (.int .i64 (x + rr)) ∧ w2.cell? ⟨ab, ao + i, none⟩ = some (.int .i64 x)) := by
            intro w2 h2
            have t1 := h2.at (i := kl) (by omega)
            have t2 := h2.at (i := i) (by omega)
            rw [hkl, HV.out, ← hkl] at t1
            rw [HX.out] at t2
            obtain ⟨b1, o1, e5, t1⟩ := t1
            obtain ⟨b2, o2, e7, t2⟩ := t2
            obtain ⟨rfl, rfl⟩ : ab = b1 ∧ ao = o1 := by simpa using e5
            obtain ⟨rfl, rfl⟩ : ab = b2 ∧ ao = o2 := by simpa using e7
            exact ⟨t1, t2⟩
          obtain ⟨hck0, hci0⟩ := HCK.out w0 HRr.out
          have HZ5 : Hid (xs.drop xs.length = t.drop rr) := by unfold Hid; rw [hkk, ← List.drop_drop, HDT.out]
          have HZ1 : Hid ((xs.drop xs.length).length ≤ f ∧ r + 1 + (runsG f (x + rr + 2) (xs.drop xs.length)).length / 2 = cnt ∧ rightL n (x + rr + 2) (xs.drop xs.length) = true ∧ bs ++ ls1 ++ ls2 ++ lebs (runsG f (x + rr + 2) (xs.drop xs.length)) = LW) := by
            rw [HZ5.out]; exact HZ.out
          have hkk4 : ((i + 1 + rr : Nat) : Int) = xs.length := by omega
          rw [← hkk]
          clear hkk hkl HV HX HDT HZ HZ5 HIN hkk4
          by_cases hr0 : r = 0
          · obtain rfl := hl0 hr0
            have hr0' : ¬ (0 : Int) < r := by omega
            have hxd : x = (d : Int) := by omega
            subst hxd
            clear hr0 hl0 hle hd
            go_wp2
            go_quiet (fail)
            go_wp2_with first | (go_at_call 48; refine (C1 _).mono ?_; rintro e4 w3 ⟨a4, c4, rfl, hN⟩; clear C1; obtain ⟨kb, rfl, hcells⟩ := hN.bs hne1; have N4 := (hN3.out.keep (fr_drewN w0 _)).keep hN.fr; clear hN) | (at_builtin; refine wpList_appB w w3 rfl (.tmp 47) (.tmp 50) rfl a3 c3 bs N4 rfl ⟨kb, 0, none⟩ c4 ls1 rfl hcells (by omega) ?_; intro a5 c5 w5 hS5; replace hS5 := hide hS5; clear N4 hcells; generalize hb1 : bs ++ ls1 = bs1 at *; have hbl1 : bs1.length ≤ 110000 := (by rw [← hb1, List.length_append]; omega); clear hb1) | (go_at_call 48; refine (C2 _).mono ?_; rintro e6 w6 ⟨a6, c6, rfl, hN⟩; clear C2; obtain ⟨kb2, rfl, hcells⟩ := hN.bs hne2; have N6 := hS5.out.keep hN.fr; clear hN) | (at_builtin; refine wpList_appB w w6 rfl (.tmp 51) (.tmp 57) rfl a5 c5 bs1 N6 rfl ⟨kb2, 0, none⟩ c6 ls2 rfl hcells (by omega) ?_; intro a7 c7 w7 hS7; obtain ⟨hck7, hci7⟩ := HCK.out w7 (HR.out.keep' (hS7.fr.below (Nat.le_refl _) (fun _ h => h.elim))); replace hS7 := hide hS7; clear N6 hcells hS5; generalize bs1 ++ ls2 = bs2 at *)
            go_round
            case rel => exact ⟨xs.length, r + 1, f, (d : Int) + rr, (d : Int) + rr + 2, bs2, a7, c7, by go_num, by go_num, by go_num, rfl, by omega, by omega, fun h => absurd h (by omega), fun _ => by omega, by omega, by omega, ⟨HZ1.out.1, HZ1.out.2.1, HZ1.out.2.2.1, hS7.out, HZ1.out.2.2.2⟩⟩
            case measure => simp [intOf]; omega
          · have hr0' : (0 : Int) < r := by omega
            have hle2 := hle (by omega)
            have hxd : x - ee - 2 = (d : Int) := by omega
            have hee : -2 ≤ ee := by omega
            have hee2 : ee ≤ 5000 := by omega
            clear hr0 hl0 hle hd hle2
            go_wp2
            go_quiet (fail)
            go_wp2_with first | (go_at_call 48; refine (C1 _).mono ?_; rintro e4 w3 ⟨a4, c4, rfl, hN⟩; clear C1; obtain ⟨kb, rfl, hcells⟩ := hN.bs hne1; have N4 := (hN3.out.keep (fr_drewN w0 _)).keep hN.fr; clear hN) | (at_builtin; refine wpList_appB w w3 rfl (.tmp 47) (.tmp 50) rfl a3 c3 bs N4 rfl ⟨kb, 0, none⟩ c4 ls1 rfl hcells (by omega) ?_; intro a5 c5 w5 hS5; replace hS5 := hide hS5; clear N4 hcells; generalize hb1 : bs ++ ls1 = bs1 at *; have hbl1 : bs1.length ≤ 110000 := (by rw [← hb1, List.length_append]; omega); clear hb1) | (go_at_call 48; refine (C2 _).mono ?_; rintro e6 w6 ⟨a6, c6, rfl, hN⟩; clear C2; obtain ⟨kb2, rfl, hcells⟩ := hN.bs hne2; have N6 := hS5.out.keep hN.fr; clear hN) | (at_builtin; refine wpList_appB w w6 rfl (.tmp 51) (.tmp 57) rfl a5 c5 bs1 N6 rfl ⟨kb2, 0, none⟩ c6 ls2 rfl hcells (by omega) ?_; intro a7 c7 w7 hS7; obtain ⟨hck7, hci7⟩ := HCK.out w7 (HR.out.keep' (hS7.fr.below (Nat.le_refl _) (fun _ h => h.elim))); replace hS7 := hide hS7; clear N6 hcells hS5; generalize bs1 ++ ls2 = bs2 at *)
            go_round
            case rel => exact ⟨xs.length, r + 1, f, x + rr, x + rr + 2, bs2, a7, c7, by go_num, by go_num, by go_num, rfl, by omega, by omega, fun h => absurd h (by omega), fun _ => by omega, by omega, by omega, ⟨HZ1.out.1, HZ1.out.2.1, HZ1.out.2.2.1, hS7.out, HZ1.out.2.2.2⟩⟩
            case measure => simp [intOf]; omega
        · have hjlt : i + 1 + j < xs.length := by omega
          have HDJ : Hid (xs.drop (i + 1 + j) = xs.getD (i + 1 + j) 0 :: xs.drop (i + 1 + j + 1)) := by
            unfold Hid
            rw [List.drop_eq_getElem_cons hjlt]; simp [hjlt]
          have hgj := HRr.out.at hjlt
          have hgl := HRr.out.at (i := i + j) (by omega)
          rw [HIN.out.2] at hgl
          obtain ⟨b1, o1, e5, hcy⟩ := hgj
          obtain ⟨b2, o2, e7, hcl⟩ := hgl
          obtain ⟨rfl, rfl⟩ : ab = b1 ∧ ao = o1 := by simpa using e5
          obtain ⟨rfl, rfl⟩ : ab = b2 ∧ ao = o2 := by simpa using e7
          have HY : Hid (∀ z, xs.getD (i + 1 + j) 0 = z → xs.getD (i + (j + 1)) 0 = z) := fun z hz => by rw [← hz]; congr 1; omega
          have hin1 := HIN.out.1
          rw [HDJ.out, runL] at hin1
          generalize xs.getD (i + 1 + j) 0 = y at *
          clear e5 e7
          by_cases hy : y = x + j + 1
          · rw [if_pos (by omega)] at hin1
            have HN : Hid (j + 1 + runL (x + 1 + ((j + 1 : Nat) : Int)) (xs.drop (i + 1 + (j + 1))) = rr ∧ xs.getD (i + (j + 1)) 0 = x + ((j + 1 : Nat) : Int)) := by
              refine ⟨?_, ?_⟩
              · rw [← hin1, show x + 1 + ((j + 1 : Nat) : Int) = x + 1 + j + 1 by omega, show i + 1 + (j + 1) = i + 1 + j + 1 by omega]; omega
              · rw [HY.out y rfl]; omega
            have hyb : (y == x + (j : Int) + 1) = true := by simpa using hy
            obtain ⟨kj, hkj⟩ : ∃ kj, kj = i + 1 + j := ⟨_, rfl⟩
            obtain ⟨kl, hkl⟩ : ∃ kl, kl = i + j := ⟨_, rfl⟩
            have ekl : (kj : Int) - 1 = kl := by omega
            have hkl0 : (0 : Int) ≤ kl := by omega
            have hkl1 : (kl : Int) < xs.length := by omega
            have hkj0 : (0 : Int) ≤ kj := by omega
            have hkj1 : (kj : Int) < xs.length := by omega
            have hjlt5 : i + 1 + (j + 1) ≤ xs.length := by omega
            have HKJ : Hid ((kj : Int) + 1 = ((i + 1 + (j + 1) : Nat) : Int) ∧ xs.length - (i + 1 + (j + 1)) < xs.length - (i + 1 + j)) := ⟨by omega, by omega⟩
            have hx6 : x + (j : Int) ≤ 5000 := by omega
            have hx7 : 0 ≤ x + (j : Int) := by omega
            rw [← hkj] at hcy ⊢
            rw [← hkl] at hcl
            clear hin1 HDJ HIN hj2 hjlt hj hy HY hkl hkj hl0 hle hd C1 C2
            go_wp2
            go_quiet (fail)
            go_wp2
            exact ⟨⟨j + 1, nn + nq, by simp, by rw [← HKJ.out.1], hjlt5, HN⟩, by have := HKJ.out; simp [intOf]; omega⟩
          · rw [if_neg (by omega)] at hin1
            have hjr : j = rr := by simpa using hin1
            obtain rfl : rr = j := hjr.symm
            have HV := hide HIN.out.2
            have hyb : (y == x + (rr : Int) + 1) = false := beq_eq_false_iff_ne.2 hy
            have hkk9 : ((i + 1 + rr : Nat) : Int) < xs.length := by omega
            have hx6 : x + (rr : Int) ≤ 5000 := by omega
            have hx7 : 0 ≤ x + (rr : Int) := by omega
            clear hy hin1 HY HDJ hcl
            obtain ⟨kk, hkk⟩ : ∃ kk, kk = i + 1 + rr := ⟨_, rfl⟩
            obtain ⟨kl, hkl⟩ : ∃ kl, kl = i + rr := ⟨_, rfl⟩
            have ekl : (kk : Int) - 1 = kl := by omega
            have ekr : (kk : Int) - i - 1 = rr := by omega
            have hkl0 : (0 : Int) ≤ kl := by omega
            have hkl1 : (kl : Int) < xs.length := by omega
            have hkk1 : (kk : Int) ≤ 4096 := by omega
            have hkk2 : kk ≤ xs.length := by omega
            have hkk3 : i < kk := by omega
            have HCK : Hid (∀ w2, Ri w2 (some ⟨ab, ao, none⟩) xs → w2.cell? ⟨ab, ao + kl, none⟩ = some (.int .i64 (x + rr)) ∧ w2.cell? ⟨ab, ao + i, none⟩ = some (.int .i64 x)) := by
              intro w2 h2
              have t1 := h2.at (i := kl) (by omega)
              have t2 := h2.at (i := i) (by omega)
              rw [hkl, HV.out, ← hkl] at t1
              rw [HX.out] at t2
              obtain ⟨b1, o1, e5, t1⟩ := t1
              obtain ⟨b2, o2, e7, t2⟩ := t2
              obtain ⟨rfl, rfl⟩ : ab = b1 ∧ ao = o1 := by simpa using e5
              obtain ⟨rfl, rfl⟩ : ab = b2 ∧ ao = o2 := by simpa using e7
              exact ⟨t1, t2⟩
            obtain ⟨hck0, hci0⟩ := HCK.out w0 HRr.out
            have HZ5 : Hid (xs.drop kk = t.drop rr) := by unfold Hid; rw [hkk, ← List.drop_drop, HDT.out]
            have HZ1 : Hid ((xs.drop kk).length ≤ f ∧ r + 1 + (runsG f (x + rr + 2) (xs.drop kk)).length / 2 = cnt ∧ rightL n (x + rr + 2) (xs.drop kk) = true ∧ bs ++ ls1 ++ ls2 ++ lebs (runsG f (x + rr + 2) (xs.drop kk)) = LW) := by
              rw [HZ5.out]; exact HZ.out
            have hkk4 : ((i + 1 + rr : Nat) : Int) = kk := by omega
            rw [← hkk] at hcy hkk9 ⊢
            clear hkk hkl HV HX HDT HZ HZ5 HIN hkk4
            by_cases hr0 : r = 0
            · obtain rfl := hl0 hr0
              have hr0' : ¬ (0 : Int) < r := by omega
              have hxd : x = (d : Int) := by omega
              subst hxd
              clear hr0 hl0 hle hd
              go_wp2
              go_quiet (fail)
              go_wp2_with first | (go_at_call 48; refine (C1 _).mono ?_; rintro e4 w3 ⟨a4, c4, rfl, hN⟩; clear C1; obtain ⟨kb, rfl, hcells⟩ := hN.bs hne1; have N4 := (hN3.out.keep (fr_drewN w0 _)).keep hN.fr; clear hN) | (at_builtin; refine wpList_appB w w3 rfl (.tmp 47) (.tmp 50) rfl a3 c3 bs N4 rfl ⟨kb, 0, none⟩ c4 ls1 rfl hcells (by omega) ?_; intro a5 c5 w5 hS5; replace hS5 := hide hS5; clear N4 hcells; generalize hb1 : bs ++ ls1 = bs1 at *; have hbl1 : bs1.length ≤ 110000 := (by rw [← hb1, List.length_append]; omega); clear hb1) | (go_at_call 48; refine (C2 _).mono ?_; rintro e6 w6 ⟨a6, c6, rfl, hN⟩; clear C2; obtain ⟨kb2, rfl, hcells⟩ := hN.bs hne2; have N6 := hS5.out.keep hN.fr; clear hN) | (at_builtin; refine wpList_appB w w6 rfl (.tmp 51) (.tmp 57) rfl a5 c5 bs1 N6 rfl ⟨kb2, 0, none⟩ c6 ls2 rfl hcells (by omega) ?_; intro a7 c7 w7 hS7; obtain ⟨hck7, hci7⟩ := HCK.out w7 (HR.out.keep' (hS7.fr.below (Nat.le_refl _) (fun _ h => h.elim))); replace hS7 := hide hS7; clear N6 hcells hS5; generalize bs1 ++ ls2 = bs2 at *)
              go_round
              case rel => exact ⟨kk, r + 1, f, (d : Int) + rr, (d : Int) + rr + 2, bs2, a7, c7, by go_num, by go_num, by go_num, rfl, by omega, by omega, fun h => absurd h (by omega), fun _ => by omega, by omega, by omega, ⟨HZ1.out.1, HZ1.out.2.1, HZ1.out.2.2.1, hS7.out, HZ1.out.2.2.2⟩⟩
              case measure => simp [intOf]; omega
            · have hr0' : (0 : Int) < r := by omega
              have hle2 := hle (by omega)
              have hxd : x - ee - 2 = (d : Int) := by omega
              have hee : -2 ≤ ee := by omega
              have hee2 : ee ≤ 5000 := by omega
              clear hr0 hl0 hle hd hle2
              go_wp2
              go_quiet (fail)
              go_wp2_with first | (go_at_call 48; refine (C1 _).mono ?_; rintro e4 w3 ⟨a4, c4, rfl, hN⟩; clear C1; obtain ⟨kb, rfl, hcells⟩ := hN.bs hne1; have N4 := (hN3.out.keep (fr_drewN w0 _)).keep hN.fr; clear hN) | (at_builtin; refine wpList_appB w w3 rfl (.tmp 47) (.tmp 50) rfl a3 c3 bs N4 rfl ⟨kb, 0, none⟩ c4 ls1 rfl hcells (by omega) ?_; intro a5 c5 w5 hS5; replace hS5 := hide hS5; clear N4 hcells; generalize hb1 : bs ++ ls1 = bs1 at *; have hbl1 : bs1.length ≤ 110000 := (by rw [← hb1, List.length_append]; omega); clear hb1) | (go_at_call 48; refine (C2 _).mono ?_; rintro e6 w6 ⟨a6, c6, rfl, hN⟩; clear C2; obtain ⟨kb2, rfl, hcells⟩ := hN.bs hne2; have N6 := hS5.out.keep hN.fr; clear hN) | (at_builtin; refine wpList_appB w w6 rfl (.tmp 51) (.tmp 57) rfl a5 c5 bs1 N6 rfl ⟨kb2, 0, none⟩ c6 ls2 rfl hcells (by omega) ?_; intro a7 c7 w7 hS7; obtain ⟨hck7, hci7⟩ := HCK.out w7 (HR.out.keep' (hS7.fr.below (Nat.le_refl _) (fun _ h => h.elim))); replace hS7 := hide hS7; clear N6 hcells hS5; generalize bs1 ++ ls2 = bs2 at *)
              go_round
              case rel => exact ⟨kk, r + 1, f, x + rr, x + rr + 2, bs2, a7, c7, by go_num, by go_num, by go_num, rfl, by omega, by omega, fun h => absurd h (by omega), fun _ => by omega, by omega, by omega, ⟨HZ1.out.1, HZ1.out.2.1, HZ1.out.2.2.1, hS7.out, HZ1.out.2.2.2⟩⟩
              case measure => simp [intOf]; omega
end Go.Proofs.YtidhcmhheohciaaDoor
namespace Go.Proofs.YtidhcmhheohciaaDoor
open Go.RowKit
/-- bytes that stay, whatever of w0 changes -/
def BK (w0 w : World) (a : Option Addr) (xs : List UInt8) : Prop := ∀ w' : World, Fr (fun k => k < w0.heap.size) w w' → Row w' a (B8 xs)
theorem NewB.bk {w0 w : World} {a : Option Addr} {c : Nat} {xs : List UInt8} (h : NewB w0 w a c xs) : BK w0 w a xs ∧ (a = none → c = 0) := by
  refine ⟨fun w' f => ?_, h.row.2⟩
  rcases h.own.2 with ⟨e, e2⟩ | ⟨g, cap, cur, e, e2, e3⟩
  · simp only [Value.slice.injEq] at e
    exact .inl ⟨e.1, by rw [List.eq_nil_of_length_eq_zero e2]; rfl⟩
  · have e' := e
    simp only [Value.slice.injEq] at e'
    refine .inr ⟨_, e'.1, fun j u hj => f.cell (h.own.cells (g := g) (by rw [e]; rfl) j u hj) ?_⟩
    have : ((⟨g, 0, none⟩ : Addr).add j).block = g := by unfold Addr.add; split <;> rfl
    rw [this]; omega
theorem RowB.bk {w0 w : World} {xs : List UInt8} (h : RowB w w0.heap.size xs) : BK w0 w (some ⟨w0.heap.size, 0, none⟩) xs := fun w' f => rowObj_row (f.heap h (by omega))
theorem BK.later {w0 w1 w2 : World} {a : Option Addr} {xs : List UInt8} (h : BK w0 w1 a xs) (f : Fr (fun k => k < w0.heap.size) w1 w2) : BK w0 w2 a xs := fun w' f' => h w' (f.trans f')
theorem BK.mono {w0 w1 w : World} {a : Option Addr} {xs : List UInt8} (h : BK w1 w a xs) (hs : w0.heap.size ≤ w1.heap.size) : BK w0 w a xs := fun w' f => h w' (f.mono (fun _ _ hk => Nat.lt_of_lt_of_le hk hs))
theorem way0 {n : Nat} {xs : List Int} (h1 : waySz n xs 0 ≤ waySz n xs 1) (h2 : waySz n xs 0 ≤ waySz n xs 2) : wayOf n xs = 0 := by
  unfold wayOf
  rw [wl, wl, wl, if_neg (show ¬ waySz n xs (0 + 1) < waySz n xs 0 from Nat.not_lt.2 h1), if_neg (show ¬ waySz n xs (1 + 1) < waySz n xs 0 from Nat.not_lt.2 h2)]
theorem way1 {n : Nat} {xs : List Int} (h1 : waySz n xs 1 < waySz n xs 0) (h2 : waySz n xs 1 ≤ waySz n xs 2) : wayOf n xs = 1 := by
  unfold wayOf
  rw [wl, wl, wl, if_pos (show waySz n xs (0 + 1) < waySz n xs 0 from h1), if_neg (show ¬ waySz n xs (1 + 1) < waySz n xs (0 + 1) from Nat.not_lt.2 h2)]
theorem way2 {n : Nat} {xs : List Int} (h1 : waySz n xs 2 < waySz n xs 0) (h2 : waySz n xs 2 < waySz n xs 1) : wayOf n xs = 2 := by
  unfold wayOf
  rw [wl, wl, wl]
  by_cases h : waySz n xs (0 + 1) < waySz n xs 0
  · rw [if_pos h, if_pos (show waySz n xs (1 + 1) < waySz n xs (0 + 1) from h2)]
  · rw [if_neg h, if_pos (show waySz n xs (1 + 1) < waySz n xs 0 from h1)]
set_option maxRecDepth 100000 in
set_option maxHeartbeats 4000000 in
theorem rbytes_any (n : Nat) (xs : List Int) (a : Option Addr) (c : Nat) (w : World) (hr : Ri w a xs) (hn : n ≤ 4096) (hR : rightL n 0 xs = true) :
    Calls Tryd.prog 17 #[.int .i64 n, .slice a xs.length c] w fun e w' => ∃ a' c', e = .returned (.tuple #[.slice a' (wayB n xs (wayOf n xs)).length c', .int .i64 (wayOf n xs : Nat)]) ∧ BK w w' a' (wayB n xs (wayOf n xs)) ∧ (a' = none → c' = 0) ∧ Below w.heap.size w w' := by
  have hlen := right_len hR (by omega)
  have C0 := rplain_any n xs a c w hr (by omega) hn hR
  have C1 := fun w1 h => rgaps_any n xs a c w1 h hn hR
  have C2 := fun w1 h => rruns_any n xs a c w1 h hn hR
  have s0 := waySz_len hn hR 0
  have s1 := waySz_len hn hR 1
  have s2 := waySz_len hn hR 2
  have HR := hide hr
  have W0 := @way0 n xs
  have W1 := @way1 n xs
  have W2 := @way2 n xs
  rw [← s0, ← s1] at W0 W1 W2
  rw [← s2] at W0 W1 W2
  have HW0 := hide W0
  have HW1 := hide W1
  have HW2 := hide W2
  clear hr hR s0 s1 s2 W0 W1 W2 hlen
  have HB : Hid (∀ k, wayOf n xs = k → wayB n xs (wayOf n xs) = wayB n xs k) := fun k h => by rw [h]
  generalize hp0 : wayB n xs 0 = P0 at *
  generalize hp1 : wayB n xs 1 = P1 at *
  generalize hp2 : wayB n xs 2 = P2 at *
  have HP := hide (And.intro hp0 (And.intro hp1 hp2))
  generalize wayB n xs (wayOf n xs) = PW at *
  generalize wayOf n xs = wy at *
  clear hp0 hp1 hp2
  go_enter Tryd.func17, Tryd.ntmps17
  go_upto_region 2 with first | (go_at_call 22; refine C0.mono ?_; rintro e w1 ⟨rfl, h1, b1⟩; clear C0; have H1 := hide (And.intro h1.bk b1); clear h1 b1) | (go_at_call 23; refine (C1 w1 (HR.out.keep' H1.out.2)).mono ?_; rintro e w2 ⟨a2, c2, rfl, h2⟩; clear C1; have b2 := H1.out.2.trans ((h2.fr.below (Nat.le_refl _) (fun _ h => h.elim)).mono H1.out.2.size); have H2 := hide (And.intro (h2.bk.1.mono H1.out.2.size) (And.intro h2.bk.2 (And.intro b2 (H1.out.1.later (h2.fr.mono (fun _ _ h => h.elim)))))); clear h2 b2) | (go_at_call 24; refine (C2 w2 (HR.out.keep' H2.out.2.2.1)).mono ?_; rintro e w3 ⟨a3, c3, rfl, h3⟩; clear C2; have b3 := H2.out.2.2.1.trans ((h3.fr.below (Nat.le_refl _) (fun _ h => h.elim)).mono H2.out.2.2.1.size); have H3 := hide (And.intro (h3.bk.1.mono H2.out.2.2.1.size) (And.intro h3.bk.2 (And.intro b3 (And.intro (H2.out.2.2.2.later (h3.fr.mono (fun _ _ h => h.elim))) (H2.out.1.later (h3.fr.mono (fun _ _ h => h.elim))))))); clear h3 b3)
  have HN2 := hide H2.out.2.1
  clear H1 H2
  by_cases g1 : P0.length ≤ P1.length
  · have g1' : (P0.length : Int) ≤ P1.length := by omega
    by_cases g2 : P0.length ≤ P2.length
    · have g2' : (P0.length : Int) ≤ P2.length := by omega
      have e := hide (HW0.out g1 g2)
      clear g1 g2
      go_wp2
      go_ret2
      obtain rfl := e.out
      have eB := (HB.out 0 rfl).trans HP.out.1
      rw [eB]
      exact ⟨_, _, rfl, H3.out.2.2.2.1, (fun h => by cases h), H3.out.2.2.1⟩
    · have g2' : ¬ (P0.length : Int) ≤ P2.length := by omega
      have g3' : ¬ (P1.length : Int) ≤ P2.length := by omega
      have e := hide (HW2.out (by omega) (by omega))
      clear g1 g2
      go_wp2
      go_ret2
      obtain rfl := e.out
      have eB := (HB.out 2 rfl).trans HP.out.2.2
      rw [eB]
      exact ⟨_, _, rfl, H3.out.1, H3.out.2.1, H3.out.2.2.1⟩
  · have g1' : ¬ (P0.length : Int) ≤ P1.length := by omega
    by_cases g2 : P1.length ≤ P2.length
    · have g2' : (P1.length : Int) ≤ P2.length := by omega
      have e := hide (HW1.out (by omega) g2)
      clear g1 g2
      go_wp2
      go_ret2
      obtain rfl := e.out
      have eB := (HB.out 1 rfl).trans HP.out.2.1
      rw [eB]
      exact ⟨_, _, rfl, H3.out.2.2.2.2, HN2.out, H3.out.2.2.1⟩
    · have g2' : ¬ (P1.length : Int) ≤ P2.length := by omega
      have e := hide (HW2.out (by omega) (by omega))
      clear g1 g2
      go_wp2
      go_ret2
      obtain rfl := e.out
      have eB := (HB.out 2 rfl).trans HP.out.2.2
      rw [eB]
      exact ⟨_, _, rfl, H3.out.1, H3.out.2.1, H3.out.2.2.1⟩
end Go.Proofs.YtidhcmhheohciaaDoor
namespace Go.Proofs.YtidhcmhheohciaaDoor
open Go.RowKit
set_option maxRecDepth 100000 in
set_option maxHeartbeats 4000000 in
theorem tgaps_any (g rb : Nat) (bs : List UInt8) (p q n : Nat) (xs : List Int) (rest : List UInt8) (w : World) (h : Rdr w g rb bs p q) (hn : n ≤ 4096) (hR : rightL n 0 xs = true) (hb : leftOf bs p q = lebs (gapsA xs) ++ rest) :
    Calls Tryd.prog 60 #[.pointer (some ⟨g, 0, none⟩), .int .i64 n] w fun e w' => ∃ a' c', e = .returned (.tuple #[.slice a' xs.length c', .nilIface]) ∧ xs.length ≤ c' ∧ (a' = none → c' = 0) ∧ RiK w w' a' xs ∧ Rdr w' g rb bs (p + (lebs (gapsA xs)).length) q ∧ Fr (fun k => k = g) w w' := by
  have hlen := right_len hR (by omega)
  have hl2 : xs.length ≤ n := by omega
  have hl3 : (xs.length : Int) ≤ n := by omega
  have hn2 : (n : Int) ≤ 4096 := by omega
  have hg1 := heap_lt h.obj
  have hg2 := heap_lt h.row
  have HR := hide h
  have HB := hide hb
  have HG := hide hR
  have hnum : numGo (leftOf bs p q) 0 0 = (xs.length, (lebF 9 xs.length).length, 0) := by
    rw [hb, gapsA, lebs_cons, List.append_assoc]; exact num_leb _ (by omega) _
  have HL : Hid (leftOf bs (p + (lebF 9 xs.length).length) q = lebs (gapL 0 xs) ++ rest) := by
    unfold Hid
    rw [left_drop, hb, gapsA, lebs_cons, List.append_assoc, List.drop_append_of_le_length (Nat.le_refl _), List.drop_length, List.nil_append]
  have HT : Hid (p + (lebF 9 xs.length).length + (lebs (gapL 0 xs)).length = p + (lebs (gapsA xs)).length) := by
    unfold Hid; rw [gapsA, lebs_cons, List.length_append]; omega
  clear h hb hR hlen
  generalize (lebF 9 xs.length).length = s0 at *
  generalize p + (lebs (gapsA xs)).length = pe at *
  go_enter Tryd.func60, Tryd.ntmps60
  go_wp2_with fail
  refine (ruint_ok g rb bs p q _ xs.length s0 w HR.out hnum (by omega)).mono ?_
  rintro e w1 ⟨rfl, h1, f1⟩
  have H1 := hide (And.intro h1 f1)
  clear h1 f1 hnum
  go_wp2_with fail
  go_loopw [8, 9, 23] (fun s8 s9 s23 wr => ∃ (k l pk : Nat) (ps : List Int), s23 = .int .u64 k ∧ s9 = .int .i64 l ∧ k ≤ xs.length ∧ l ≤ n ∧ Hid (ps.length = k) ∧ Hid (Sq w wr g s8 ps ∧ ps ++ xs.drop k = xs ∧ rightL n l (xs.drop k) = true ∧ Rdr wr g rb bs pk q ∧ leftOf bs pk q = lebs (gapL l (xs.drop k)) ++ rest ∧ pk + (lebs (gapL l (xs.drop k))).length = pe)) (fun _ _ s23 _ => xs.length - (intOf s23).toNat)
  case atStart => exact ⟨0, 0, p + s0, [], rfl, rfl, Nat.zero_le _, Nat.zero_le _, rfl, ⟨Sq.start H1.out.2, by simp, HG.out, H1.out.1, HL.out, HT.out⟩⟩
  case round =>
    obtain ⟨k, l, pk, ps, rfl, rfl, hk, hl, hps, h4⟩ := hrel
    obtain ⟨a5, c5, rfl, hc5, hn5, hri⟩ := own_riK h4.out.1.own
    by_cases hk2 : k = xs.length
    · have e1 : xs.drop k = [] := List.drop_of_length_le (by omega)
      have H6 : Hid (ps = xs ∧ pk = pe ∧ ps.length ≤ c5 ∧ (a5 = none → c5 = 0) ∧ RiK w wr a5 ps ∧ Rdr wr g rb bs pk q ∧ Fr (fun k => k = g) w wr) := by
        have t := h4.out
        rw [e1] at t
        refine ⟨by simpa using t.2.1, by have := t.2.2.2.2.2; simpa [gapL, lebs] using this, hc5, hn5, hri, t.2.2.2.1, t.1.fr⟩
      have hk3 : ¬ (k : Int) < xs.length := by omega
      clear h4 hc5 hn5 hri e1
      go_wp2
      go_ret2
      obtain ⟨rfl, rfl, z1, z2, z3, z4, z5⟩ := H6.out
      exact ⟨a5, c5, rfl, z1, z2, z3, z4, z5⟩
    · clear hc5 hn5 hri
      have hlt : k < xs.length := by omega
      have hlt' : (k : Int) < xs.length := by omega
      have HD : Hid (xs.drop k = xs.getD k 0 :: xs.drop (k + 1)) := by
        unfold Hid
        rw [List.drop_eq_getElem_cons hlt]; simp [hlt]
      generalize xs.getD k 0 = x at *
      have h5 := h4.out
      rw [HD.out] at h5
      obtain ⟨x0, x1, HG2⟩ : (l : Int) ≤ x ∧ x < n ∧ Hid (rightL n (x + 1) (xs.drop (k + 1)) = true) := by
        have t := h5.2.2.1
        rw [rightL] at t
        split at t
        · exact absurd t (by simp)
        · exact ⟨by omega, by omega, t⟩
      obtain ⟨d, rfl⟩ : ∃ d : Nat, x = ((l + d : Nat) : Int) := ⟨(x - l).toNat, by omega⟩
      have ed : (((l + d : Nat) : Int) - (l : Int)).toNat = d := by omega
      have hnum2 : numGo (leftOf bs pk q) 0 0 = (d, (lebF 9 d).length, 0) := by
        rw [h5.2.2.2.2.1, gapL, lebs_cons, List.append_assoc, ed]; exact num_leb _ (by omega) _
      have HL2 : Hid (leftOf bs (pk + (lebF 9 d).length) q = lebs (gapL (((l + d : Nat) : Int) + 1) (xs.drop (k + 1))) ++ rest ∧ pk + (lebF 9 d).length + (lebs (gapL (((l + d : Nat) : Int) + 1) (xs.drop (k + 1)))).length = pe) := by
        refine ⟨?_, ?_⟩
        · rw [left_drop, h5.2.2.2.2.1, gapL, lebs_cons, List.append_assoc, ed, List.drop_append_of_le_length (Nat.le_refl _), List.drop_length, List.nil_append]
        · have t := h5.2.2.2.2.2
          rw [gapL, lebs_cons, List.length_append, ed] at t
          omega
      have HP2 : Hid (ps ++ [((l + d : Nat) : Int)] ++ xs.drop (k + 1) = xs) := by
        have t := h5.2.1
        unfold Hid
        rw [List.append_assoc]; simpa using t
      have HS := hide h5.1
      have C := below_any g rb bs pk q l n d (lebF 9 d).length wr h5.2.2.2.1 (by omega) hn (by omega) hnum2
      have hd : ((l + d : Nat) : Int) < n := x1
      have hps2 : ps.length ≤ 1000000 := by have := hps.out; omega
      clear h4 h5 hnum2 ed x0 x1 HD
      generalize (lebF 9 d).length = s at *
      generalize hld : l + d = m at *
      clear hld
      go_wp2_with first | (go_at_call 70; refine C.mono ?_; rintro e w2 ⟨rfl, h6, f6⟩; have HS2 := hide (HS.out.keep hg1 f6); replace h6 := hide h6; clear f6) | (at_builtin; refine wpList_appq w w2 g rfl (.tmp 35) (.tmp 37) rfl _ ps m HS2.out rfl rfl hps2 ?_; intro a2 c2 w3 hS3 f3; have H7 := hide (And.intro hS3 (h6.out.keep f3 (by omega) (by omega))); clear hS3 f3)
      go_round
      case rel => exact ⟨k + 1, m + 1, pk + s, ps ++ [(m : Int)], by go_num, by go_num, by omega, by omega, (by have := hps.out; unfold Hid; simp; omega), ⟨by simpa using H7.out.1, HP2.out, HG2.out, H7.out.2, HL2.out.1, HL2.out.2⟩⟩
      case measure => simp [intOf]; omega
end Go.Proofs.YtidhcmhheohciaaDoor
namespace Go.Proofs.YtidhcmhheohciaaDoor
open Go.RowKit
theorem and_bit_fin : ∀ (x : Fin 256) (j : Fin 8), (bits BinOp.and IntKind.u8 ((x.val : Int) / 2 ^ j.val) 1 == 0) = !x.val.testBit j.val := by decide +kernel
theorem and_bit (c : UInt8) (j : Nat) (hj : j < 8) : (bits BinOp.and IntKind.u8 ((c.toNat : Int) / 2 ^ j) 1 == 0) = !c.toNat.testBit j := and_bit_fin ⟨c.toNat, c.toNat_lt⟩ ⟨j, hj⟩
theorem RiK.mono {w0 w1 w : World} {a : Option Addr} {xs : List Int} (h : RiK w1 w a xs) (hs : w0.heap.size ≤ w1.heap.size) : RiK w0 w a xs := fun w' f => h w' (f.mono (fun _ _ hk => Nat.lt_of_lt_of_le hk hs))
set_option maxRecDepth 100000 in
set_option maxHeartbeats 4000000 in
theorem tplain_any (g rb : Nat) (bs : List UInt8) (p q n : Nat) (xs : List Int) (w : World) (h : Rdr w g rb bs p q) (hn : n ≤ 4096) (hR : rightL n 0 xs = true) (hq : p + (n + 7) / 8 ≤ q) (hb : leftOf bs p (p + (n + 7) / 8) = plainB ((n + 7) / 8) xs) :
    Calls Tryd.prog 59 #[.pointer (some ⟨g, 0, none⟩), .int .i64 n] w fun e w' => ∃ a' c', e = .returned (.tuple #[.slice a' xs.length c', .nilIface]) ∧ xs.length ≤ c' ∧ (a' = none → c' = 0) ∧ RiK w w' a' xs ∧ Rdr w' g rb bs (p + (n + 7) / 8) q ∧ Fr (fun k => k = g) w w' := by
  have hps := psize_any n w hn
  have hraw := rraw_ok g rb bs p q ((n + 7) / 8) w h hq
  rw [hb] at hraw
  have HS := hide (fun k hk => setF_plain hR k hk)
  have HNO := hide (fun y hy => bit_no hR y hy)
  have hlen := plainB_len ((n + 7) / 8) xs
  have hm : (n + 7) / 8 ≤ 1000 := by omega
  have hm2 : Hid (n ≤ 8 * ((n + 7) / 8)) := by unfold Hid; omega
  clear h hR hb hq
  generalize plainB ((n + 7) / 8) xs = b at *
  generalize (n + 7) / 8 = m at *
  have hm3 : (m : Int) ≤ 1000 := by omega
  go_enter Tryd.func59, Tryd.ntmps59
  go_upto_region 2 with first | (go_at_call 41; refine hps.mono ?_; rintro e w' ⟨h, rfl⟩; obtain rfl := h.symm) | (go_at_call 47; refine hraw.mono ?_; rintro e w1 ⟨rfl, h1, h2, h3⟩; replace h1 := hide h1; replace h2 := hide h2; replace h3 := hide h3)
  clear hps hraw
  go_wp2_with fail
  go_loopw [8, 23] (fun s8 s23 wr => ∃ k : Nat, s23 = .int .i64 k ∧ k ≤ 8 * m ∧ Hid (St w1 wr s8 (setF (bitB b) 0 k))) (fun _ s23 _ => 8 * m - (intOf s23).toNat)
  case atStart => exact ⟨0, rfl, Nat.zero_le _, St.start w1⟩
  case round =>
    obtain ⟨k, rfl, hk, h4⟩ := hrel
    obtain ⟨a5, c5, rfl, hc5, hn5, hri⟩ := own_riK h4.out.own
    by_cases hk2 : k = 8 * m
    · subst hk2
      have H6 : Hid (setF (bitB b) 0 (8 * m) = xs ∧ (setF (bitB b) 0 (8 * m)).length ≤ c5 ∧ (a5 = none → c5 = 0) ∧ RiK w1 wr a5 (setF (bitB b) 0 (8 * m)) ∧ Below w1.heap.size w1 wr) := ⟨HS.out _ hm2.out, hc5, hn5, hri, h4.out.bel⟩
      clear h4 hc5 hn5 hri
      generalize setF (bitB b) 0 (8 * m) = ps at *
      go_wp2
      go_ret2
      obtain ⟨rfl, z1, z2, z3, z4⟩ := H6.out
      have F : Fr (fun k => k = g) w1 wr := Fr.ofBelow z4
      exact ⟨a5, c5, rfl, z1, z2, z3.mono h3.out.size, h2.out.keep (Fr.ofBelow (S := fun _ => False) z4) (fun h => h) (fun h => h), h3.out.trans F⟩
    · clear hc5 hn5 hri
      have hlt : (k : Int) < 8 * m := by omega
      have hrow : RowB wr w.heap.size b := (h4.out.bel.block _ (heap_lt h1.out)).trans h1.out
      obtain ⟨qq, hqq⟩ : ∃ qq, qq = k / 8 := ⟨_, rfl⟩
      obtain ⟨j, hj⟩ : ∃ j, j = k % 8 := ⟨_, rfl⟩
      have e1 : (k : Int) / 8 = qq := by omega
      have e2 : (k : Int) % 8 = j := by omega
      have hq0 : (0 : Int) ≤ qq := by omega
      have hq1 : (qq : Int) < m := by omega
      have hj0 : (0 : Int) ≤ j := by omega
      have hj1 : (j : Int) < 8 := by omega
      have hk0 : (0 : Int) ≤ k := by omega
      have hcb := hrow.cell (i := qq) (by omega)
      have hbit : (b.getD qq 0).toNat.testBit j = bitB b k := by unfold bitB; rw [hqq, hj]
      have hand := and_bit (b.getD qq 0) j (by omega)
      rw [hbit] at hand
      have hlen2 := setF_len (bitB b) k 0
      have hS := setF_succ (bitB b) k 0
      rw [Nat.zero_add] at hS
      have HS2 := hide hS
      have HK := hide hk
      clear hqq hj hrow hbit hS hk
      generalize (b.getD qq 0) = cb at *
      cases hbk : bitB b k with
      | false =>
        rw [hbk] at hand HS2
        have HE : Hid (setF (bitB b) 0 (k + 1) = setF (bitB b) 0 k) := by unfold Hid; simpa using HS2.out
        simp only [Bool.not_false] at hand
        clear hbk HS2
        generalize setF (bitB b) 0 k = ps at *
        go_wp2
        exact ⟨⟨k + 1, by simp, by have := HK.out; omega, by rw [HE.out]; exact h4⟩, by simp [intOf]; omega⟩
      | true =>
        rw [hbk] at hand HS2
        have HE : Hid (setF (bitB b) 0 (k + 1) = setF (bitB b) 0 k ++ [(k : Int)]) := by unfold Hid; simpa using HS2.out
        simp only [Bool.not_true] at hand
        have hkn : ¬ (n : Int) ≤ k := by
          intro h
          have := HNO.out k (by omega)
          rw [hbk] at this; exact absurd this (by simp)
        clear hbk HS2
        generalize setF (bitB b) 0 k = ps at *
        have hps2 : ps.length ≤ 1000000 := by omega
        go_wp2_with (at_builtin; refine wpList_app1 w1 wr rfl (.tmp 40) (.tmp 42) rfl _ ps k h4.out rfl rfl hps2 ?_; intro a2 c2 w3 hS3; replace hS3 := (hide hS3))
        go_round
        case rel => exact ⟨k + 1, by go_num, by have := HK.out; omega, by rw [HE.out]; exact hide (by simpa using hS3.out)⟩
        case measure => simp [intOf]; omega
end Go.Proofs.YtidhcmhheohciaaDoor
namespace Go.Proofs.YtidhcmhheohciaaDoor
open Go.RowKit
theorem left_head {bs t : List UInt8} {p q : Nat} {c : UInt8} (h : leftOf bs p q = c :: t) : p < q ∧ bs[p]? = some c ∧ leftOf bs (p + 1) q = t := by
  have h2 : leftOf bs (p + 1) q = t := by rw [left_drop, h]; rfl
  unfold leftOf at h
  have h3 : (bs.take q)[p]? = some c := by
    have := congrArg (fun l => l[0]?) h
    simpa using this
  have h4 : p < (bs.take q).length := by
    rcases Nat.lt_or_ge p (bs.take q).length with t1 | t1
    · exact t1
    · rw [List.getElem?_eq_none t1] at h3; exact absurd h3 (by simp)
  rw [List.length_take] at h4
  refine ⟨by omega, ?_, h2⟩
  rw [List.getElem?_take] at h3
  split at h3
  · exact h3
  · exact absurd h3 (by simp)
/-- what takes a set behind its way -/
def Taken (f : Nat) : Prop := ∀ (g rb : Nat) (bs : List UInt8) (p q n : Nat) (xs : List Int) (w : World), Rdr w g rb bs p q → n ≤ 4096 → rightL n 0 xs = true → leftOf bs p q = (wayB n xs f).tail →
    Calls Tryd.prog (59 + f) #[.pointer (some ⟨g, 0, none⟩), .int .i64 n] w fun e w' => ∃ a' c', e = .returned (.tuple #[.slice a' xs.length c', .nilIface]) ∧ xs.length ≤ c' ∧ (a' = none → c' = 0) ∧ RiK w w' a' xs ∧ Rdr w' g rb bs q q ∧ Fr (fun k => k = g) w w'
theorem taken0 : Taken 0 := by
  intro g rb bs p q n xs w h hn hR hb
  have e : (wayB n xs 0).tail = plainB ((n + 7) / 8) xs := by simp [wayB]
  rw [e] at hb
  have hl : q - p = (n + 7) / 8 := by
    have := congrArg List.length hb
    rw [left_length h.qb, plainB_len] at this; exact this
  have hpq := h.pq
  have e2 : p + (n + 7) / 8 = q := by omega
  have t := tplain_any g rb bs p q n xs w h hn hR (by omega) (by rw [e2]; exact hb)
  rw [e2] at t
  exact t
theorem taken1 : Taken 1 := by
  intro g rb bs p q n xs w h hn hR hb
  have e : (wayB n xs 1).tail = lebs (gapsA xs) := by simp [wayB]
  rw [e] at hb
  have hl : q - p = (lebs (gapsA xs)).length := by
    have := congrArg List.length hb
    rw [left_length h.qb] at this; exact this
  have hpq := h.pq
  have t := tgaps_any g rb bs p q n xs [] w h hn hR (by simpa using hb)
  rw [show p + (lebs (gapsA xs)).length = q by omega] at t
  exact t
theorem taken2 : Taken 2 := by
  intro g rb bs p q n xs w h hn hR hb
  have e : (wayB n xs 2).tail = lebs (runsA xs) := by simp [wayB]
  rw [e] at hb
  have hl : q - p = (lebs (runsA xs)).length := by
    have := congrArg List.length hb
    rw [left_length h.qb] at this; exact this
  have hpq := h.pq
  have t := truns_any g rb bs p q n xs [] w h hn hR (by simpa using hb)
  rw [show p + (lebs (runsA xs)).length = q by omega] at t
  exact t
theorem way_head (n : Nat) (xs : List Int) (k : Nat) (hk : k ≤ 2) : wayB n xs k = UInt8.ofNat k :: (wayB n xs k).tail := by
  match k, hk with
  | 0, _ => simp [wayB]
  | 1, _ => simp [wayB]
  | 2, _ => simp [wayB]
end Go.Proofs.YtidhcmhheohciaaDoor
namespace Go.Proofs.YtidhcmhheohciaaDoor
open Go.RowKit

set_option maxRecDepth 100000 in
set_option maxHeartbeats 4000000 in
theorem take_ok0 (g rb : Nat) (bs : List UInt8) (p q n : Nat) (xs : List Int) (w : World) (h : Rdr w g rb bs p q) (hn : n ≤ 4096) (hR : rightL n 0 xs = true) (hb : leftOf bs p q = wayB n xs 0) (hw : wayOf n xs = 0) :
    Calls Tryd.prog 46 #[.pointer (some ⟨g, 0, none⟩), .int .i64 n] w fun e w' => ∃ a' c', e = .returned (.tuple #[.slice a' xs.length c', .nilIface]) ∧ xs.length ≤ c' ∧ (a' = none → c' = 0) ∧ RiK w w' a' xs ∧ Rdr w' g rb bs q q ∧ Fr (fun k => k = g) w w' := by
  rw [way_head n xs 0 (by omega)] at hb
  obtain ⟨hpq, hc, hl⟩ := left_head hb
  have C1 := rbyte_ok g rb bs p q (UInt8.ofNat 0) w h hpq hc
  rw [show ((UInt8.ofNat 0).toNat : Int) = 0 from rfl] at C1
  have HL := hide hl
  have HG := hide hR
  have HW := hide hw
  have hg1 := heap_lt h.obj
  have hg2 := heap_lt h.row
  clear h hb hpq hc hl hR hw
  go_enter Tryd.func46, Tryd.ntmps46
  go_wp2_with fail
  refine C1.mono ?_
  rintro e w1 ⟨rfl, h1, f1⟩
  have C2 := taken0 g rb bs (p + 1) q n xs w1 h1 hn HG.out HL.out
  replace f1 := hide f1
  clear C1 h1
  go_wp2_with fail
  refine C2.mono ?_
  rintro e w2 ⟨a2, c2, rfl, z1, z2, z3, z4, z5⟩
  have H2 := hide (And.intro z3 (And.intro z4 (f1.out.trans z5)))
  have C3 := way_any a2 c2 w2 hn HG.out z1 (z3 w2 (Fr.refl _ _))
  rw [HW.out] at C3
  have HZ := hide (And.intro z1 z2)
  clear C2 z1 z2 z3 z4 z5
  go_wp2_with fail
  refine C3.mono ?_
  rintro e w3 ⟨hb3, rfl⟩
  replace hb3 := hide hb3
  clear C3
  go_wp2
  go_ret2
  exact ⟨a2, c2, rfl, HZ.out.1, HZ.out.2, fun w' f => (H2.out.1.mono f1.out.size) w' ((Fr.ofBelow hb3.out).trans f), H2.out.2.1.keep (Fr.ofBelow (S := fun _ => False) hb3.out) (fun h => h) (fun h => h), H2.out.2.2.trans (Fr.ofBelow hb3.out)⟩
set_option maxRecDepth 100000 in
set_option maxHeartbeats 4000000 in
theorem take_bad0 (g rb : Nat) (bs : List UInt8) (p q n : Nat) (xs : List Int) (w : World) (h : Rdr w g rb bs p q) (hn : n ≤ 4096) (hR : rightL n 0 xs = true) (hb : leftOf bs p q = wayB n xs 0) (hw : wayOf n xs ≠ 0) :
    Calls Tryd.prog 46 #[.pointer (some ⟨g, 0, none⟩), .int .i64 n] w fun e w' => e = .returned (.tuple #[.slice none 0 0, .iface 32 (.int .i64 3)]) ∧ Fr (fun k => k = g) w w' := by
  rw [way_head n xs 0 (by omega)] at hb
  obtain ⟨hpq, hc, hl⟩ := left_head hb
  have C1 := rbyte_ok g rb bs p q (UInt8.ofNat 0) w h hpq hc
  rw [show ((UInt8.ofNat 0).toNat : Int) = 0 from rfl] at C1
  have HL := hide hl
  have HG := hide hR
  have hwb : (((wayOf n xs : Nat) : Int) != 0) = true := by simp; omega
  have hg1 := heap_lt h.obj
  have hg2 := heap_lt h.row
  have hwy := way_le n xs
  have C4 := fun a2 c2 w2 z1 z3 => way_any (n := n) (xs := xs) a2 c2 w2 hn HG.out z1 z3
  generalize wayOf n xs = wy at *
  have hw2 : (wy : Int) ≤ 2 := by omega
  clear h hb hpq hc hl hR hw hwy
  go_enter Tryd.func46, Tryd.ntmps46
  go_wp2_with fail
  refine C1.mono ?_
  rintro e w1 ⟨rfl, h1, f1⟩
  have C2 := taken0 g rb bs (p + 1) q n xs w1 h1 hn HG.out HL.out
  replace f1 := hide f1
  clear C1 h1
  go_wp2_with fail
  refine C2.mono ?_
  rintro e w2 ⟨a2, c2, rfl, z1, z2, z3, z4, z5⟩
  have H2 := hide (f1.out.trans z5)
  have C3 := C4 a2 c2 w2 z1 (z3 w2 (Fr.refl _ _))
  clear C2 C4 z1 z2 z3 z4 z5
  go_wp2_with fail
  refine C3.mono ?_
  rintro e w3 ⟨hb3, rfl⟩
  replace hb3 := hide hb3
  clear C3
  go_wp2
  go_ret2
  exact ⟨rfl, H2.out.trans (Fr.ofBelow hb3.out)⟩
end Go.Proofs.YtidhcmhheohciaaDoor
namespace Go.Proofs.YtidhcmhheohciaaDoor
open Go.RowKit

set_option maxRecDepth 100000 in
set_option maxHeartbeats 4000000 in
theorem take_ok1 (g rb : Nat) (bs : List UInt8) (p q n : Nat) (xs : List Int) (w : World) (h : Rdr w g rb bs p q) (hn : n ≤ 4096) (hR : rightL n 0 xs = true) (hb : leftOf bs p q = wayB n xs 1) (hw : wayOf n xs = 1) :
    Calls Tryd.prog 46 #[.pointer (some ⟨g, 0, none⟩), .int .i64 n] w fun e w' => ∃ a' c', e = .returned (.tuple #[.slice a' xs.length c', .nilIface]) ∧ xs.length ≤ c' ∧ (a' = none → c' = 0) ∧ RiK w w' a' xs ∧ Rdr w' g rb bs q q ∧ Fr (fun k => k = g) w w' := by
  rw [way_head n xs 1 (by omega)] at hb
  obtain ⟨hpq, hc, hl⟩ := left_head hb
  have C1 := rbyte_ok g rb bs p q (UInt8.ofNat 1) w h hpq hc
  rw [show ((UInt8.ofNat 1).toNat : Int) = 1 from rfl] at C1
  have HL := hide hl
  have HG := hide hR
  have HW := hide hw
  have hg1 := heap_lt h.obj
  have hg2 := heap_lt h.row
  clear h hb hpq hc hl hR hw
  go_enter Tryd.func46, Tryd.ntmps46
  go_wp2_with fail
  refine C1.mono ?_
  rintro e w1 ⟨rfl, h1, f1⟩
  have C2 := taken1 g rb bs (p + 1) q n xs w1 h1 hn HG.out HL.out
  replace f1 := hide f1
  clear C1 h1
  go_wp2_with fail
  refine C2.mono ?_
  rintro e w2 ⟨a2, c2, rfl, z1, z2, z3, z4, z5⟩
  have H2 := hide (And.intro z3 (And.intro z4 (f1.out.trans z5)))
  have C3 := way_any a2 c2 w2 hn HG.out z1 (z3 w2 (Fr.refl _ _))
  rw [HW.out] at C3
  have HZ := hide (And.intro z1 z2)
  clear C2 z1 z2 z3 z4 z5
  go_wp2_with fail
  refine C3.mono ?_
  rintro e w3 ⟨hb3, rfl⟩
  replace hb3 := hide hb3
  clear C3
  go_wp2
  go_ret2
  exact ⟨a2, c2, rfl, HZ.out.1, HZ.out.2, fun w' f => (H2.out.1.mono f1.out.size) w' ((Fr.ofBelow hb3.out).trans f), H2.out.2.1.keep (Fr.ofBelow (S := fun _ => False) hb3.out) (fun h => h) (fun h => h), H2.out.2.2.trans (Fr.ofBelow hb3.out)⟩
set_option maxRecDepth 100000 in
set_option maxHeartbeats 4000000 in
theorem take_bad1 (g rb : Nat) (bs : List UInt8) (p q n : Nat) (xs : List Int) (w : World) (h : Rdr w g rb bs p q) (hn : n ≤ 4096) (hR : rightL n 0 xs = true) (hb : leftOf bs p q = wayB n xs 1) (hw : wayOf n xs ≠ 1) :
    Calls Tryd.prog 46 #[.pointer (some ⟨g, 0, none⟩), .int .i64 n] w fun e w' => e = .returned (.tuple #[.slice none 0 0, .iface 32 (.int .i64 3)]) ∧ Fr (fun k => k = g) w w' := by
  rw [way_head n xs 1 (by omega)] at hb
  obtain ⟨hpq, hc, hl⟩ := left_head hb
  have C1 := rbyte_ok g rb bs p q (UInt8.ofNat 1) w h hpq hc
  rw [show ((UInt8.ofNat 1).toNat : Int) = 1 from rfl] at C1
  have HL := hide hl
  have HG := hide hR
  have hwb : (((wayOf n xs : Nat) : Int) != 1) = true := by simp; omega
  have hg1 := heap_lt h.obj
  have hg2 := heap_lt h.row
  have hwy := way_le n xs
  have C4 := fun a2 c2 w2 z1 z3 => way_any (n := n) (xs := xs) a2 c2 w2 hn HG.out z1 z3
  generalize wayOf n xs = wy at *
  have hw2 : (wy : Int) ≤ 2 := by omega
  clear h hb hpq hc hl hR hw hwy
  go_enter Tryd.func46, Tryd.ntmps46
  go_wp2_with fail
  refine C1.mono ?_
  rintro e w1 ⟨rfl, h1, f1⟩
  have C2 := taken1 g rb bs (p + 1) q n xs w1 h1 hn HG.out HL.out
  replace f1 := hide f1
  clear C1 h1
  go_wp2_with fail
  refine C2.mono ?_
  rintro e w2 ⟨a2, c2, rfl, z1, z2, z3, z4, z5⟩
  have H2 := hide (f1.out.trans z5)
  have C3 := C4 a2 c2 w2 z1 (z3 w2 (Fr.refl _ _))
  clear C2 C4 z1 z2 z3 z4 z5
  go_wp2_with fail
  refine C3.mono ?_
  rintro e w3 ⟨hb3, rfl⟩
  replace hb3 := hide hb3
  clear C3
  go_wp2
  go_ret2
  exact ⟨rfl, H2.out.trans (Fr.ofBelow hb3.out)⟩
end Go.Proofs.YtidhcmhheohciaaDoor
namespace Go.Proofs.YtidhcmhheohciaaDoor
open Go.RowKit

set_option maxRecDepth 100000 in
set_option maxHeartbeats 4000000 in
theorem take_ok2 (g rb : Nat) (bs : List UInt8) (p q n : Nat) (xs : List Int) (w : World) (h : Rdr w g rb bs p q) (hn : n ≤ 4096) (hR : rightL n 0 xs = true) (hb : leftOf bs p q = wayB n xs 2) (hw : wayOf n xs = 2) :
    Calls Tryd.prog 46 #[.pointer (some ⟨g, 0, none⟩), .int .i64 n] w fun e w' => ∃ a' c', e = .returned (.tuple #[.slice a' xs.length c', .nilIface]) ∧ xs.length ≤ c' ∧ (a' = none → c' = 0) ∧ RiK w w' a' xs ∧ Rdr w' g rb bs q q ∧ Fr (fun k => k = g) w w' := by
  rw [way_head n xs 2 (by omega)] at hb
  obtain ⟨hpq, hc, hl⟩ := left_head hb
  have C1 := rbyte_ok g rb bs p q (UInt8.ofNat 2) w h hpq hc
  rw [show ((UInt8.ofNat 2).toNat : Int) = 2 from rfl] at C1
  have HL := hide hl
  have HG := hide hR
  have HW := hide hw
  have hg1 := heap_lt h.obj
  have hg2 := heap_lt h.row
  clear h hb hpq hc hl hR hw
  go_enter Tryd.func46, Tryd.ntmps46
  go_wp2_with fail
  refine C1.mono ?_
  rintro e w1 ⟨rfl, h1, f1⟩
  have C2 := taken2 g rb bs (p + 1) q n xs w1 h1 hn HG.out HL.out
  replace f1 := hide f1
  clear C1 h1
  go_wp2_with fail
  refine C2.mono ?_
  rintro e w2 ⟨a2, c2, rfl, z1, z2, z3, z4, z5⟩
  have H2 := hide (And.intro z3 (And.intro z4 (f1.out.trans z5)))
  have C3 := way_any a2 c2 w2 hn HG.out z1 (z3 w2 (Fr.refl _ _))
  rw [HW.out] at C3
  have HZ := hide (And.intro z1 z2)
  clear C2 z1 z2 z3 z4 z5
  go_wp2_with fail
  refine C3.mono ?_
  rintro e w3 ⟨hb3, rfl⟩
  replace hb3 := hide hb3
  clear C3
  go_wp2
  go_ret2
  exact ⟨a2, c2, rfl, HZ.out.1, HZ.out.2, fun w' f => (H2.out.1.mono f1.out.size) w' ((Fr.ofBelow hb3.out).trans f), H2.out.2.1.keep (Fr.ofBelow (S := fun _ => False) hb3.out) (fun h => h) (fun h => h), H2.out.2.2.trans (Fr.ofBelow hb3.out)⟩
set_option maxRecDepth 100000 in
set_option maxHeartbeats 4000000 in
theorem take_bad2 (g rb : Nat) (bs : List UInt8) (p q n : Nat) (xs : List Int) (w : World) (h : Rdr w g rb bs p q) (hn : n ≤ 4096) (hR : rightL n 0 xs = true) (hb : leftOf bs p q = wayB n xs 2) (hw : wayOf n xs ≠ 2) :
    Calls Tryd.prog 46 #[.pointer (some ⟨g, 0, none⟩), .int .i64 n] w fun e w' => e = .returned (.tuple #[.slice none 0 0, .iface 32 (.int .i64 3)]) ∧ Fr (fun k => k = g) w w' := by
  rw [way_head n xs 2 (by omega)] at hb
  obtain ⟨hpq, hc, hl⟩ := left_head hb
  have C1 := rbyte_ok g rb bs p q (UInt8.ofNat 2) w h hpq hc
  rw [show ((UInt8.ofNat 2).toNat : Int) = 2 from rfl] at C1
  have HL := hide hl
  have HG := hide hR
  have hwb : (((wayOf n xs : Nat) : Int) != 2) = true := by simp; omega
  have hg1 := heap_lt h.obj
  have hg2 := heap_lt h.row
  have hwy := way_le n xs
  have C4 := fun a2 c2 w2 z1 z3 => way_any (n := n) (xs := xs) a2 c2 w2 hn HG.out z1 z3
  generalize wayOf n xs = wy at *
  have hw2 : (wy : Int) ≤ 2 := by omega
  clear h hb hpq hc hl hR hw hwy
  go_enter Tryd.func46, Tryd.ntmps46
  go_wp2_with fail
  refine C1.mono ?_
  rintro e w1 ⟨rfl, h1, f1⟩
  have C2 := taken2 g rb bs (p + 1) q n xs w1 h1 hn HG.out HL.out
  replace f1 := hide f1
  clear C1 h1
  go_wp2_with fail
  refine C2.mono ?_
  rintro e w2 ⟨a2, c2, rfl, z1, z2, z3, z4, z5⟩
  have H2 := hide (f1.out.trans z5)
  have C3 := C4 a2 c2 w2 z1 (z3 w2 (Fr.refl _ _))
  clear C2 C4 z1 z2 z3 z4 z5
  go_wp2_with fail
  refine C3.mono ?_
  rintro e w3 ⟨hb3, rfl⟩
  replace hb3 := hide hb3
  clear C3
  go_wp2
  go_ret2
  exact ⟨rfl, H2.out.trans (Fr.ofBelow hb3.out)⟩
end Go.Proofs.YtidhcmhheohciaaDoor
