import Derived.Test.YtmhicllhjiglkaaG00
import Derived.WalkKit
import Derived.WalkSpells
import Derived.WalkLawsBesides
namespace Go.Proofs.Ytmhicllhjiglkaa
open Go.RowKit
theorem Ri.some {w : World} {a : Option Addr} {y : Int} {t : List Int} (h : Ri w a (y :: t)) : ∃ b o, a = some ⟨b, o, none⟩ := by
  obtain ⟨b, o, e, _⟩ := h.head; exact ⟨b, o, e⟩
set_option maxRecDepth 100000 in
set_option maxHeartbeats 16000000 in
theorem bunion_any (xs ys : List Int) (a b : Option Addr) (c d : Nat) (w : World) (hr : Ri w a xs) (hs : Ri w b ys) (hl : xs.length + ys.length ≤ 100000) (hc : xs.length ≤ c) (hd : ys.length ≤ d) (na : a = none → c = 0) (nb : b = none → d = 0) :
    Calls Try.prog 87 #[.slice a xs.length c, .slice b ys.length d] w fun e w' => ∃ a' c', e = .returned (.slice a' (uniL xs ys).length c') ∧ Ri w' a' (uniL xs ys) ∧ (uniL xs ys).length ≤ c' ∧ (a' = none → c' = 0) ∧ Below w.heap.size w w' := by
  have HR : Hid (Ri w a xs) := hr
  have HS : Hid (Ri w b ys) := hs
  have NA := hide na
  have NB := hide nb
  clear hr hs na nb
  obtain ⟨C, hmk, hown⟩ := made_own (xs.length + ys.length) (by omega)
  have hST := hide (hown w)
  clear hown
  have hmk2 : ∀ w : World, (Instr.makeSlice 38 (.int .i64 0) (.int .i64 ((xs.length : Int) + ys.length))).run Try.prog w = .ok (.slice (some ⟨w.heap.size, 0, none⟩) 0 (xs.length + ys.length)) (w.alloc (.cells C 3)) := fun w => by simpa using hmk w
  clear hmk
  go_enter Try.func87, Try.ntmps87
  go_wp2_with fail
  clear hmk2
  go_loopw [0, 1, 5] (fun s0 s1 s5 wr => ∃ (a' b' : Option Addr) (zs us ps : List Int) (c' d' : Nat), s0 = .slice a' zs.length c' ∧ s1 = .slice b' us.length d' ∧ zs.length ≤ c' ∧ us.length ≤ d' ∧ ps.length + zs.length + us.length ≤ xs.length + ys.length ∧ Hid ((a' = none → c' = 0) ∧ (b' = none → d' = 0) ∧ Su a xs a' zs ∧ Su b ys b' us ∧ St w wr s5 ps ∧ ps ++ uniL zs us = uniL xs ys)) (fun s0 s1 _ _ => lenOf s0 + lenOf s1)
  case atStart => exact ⟨a, b, xs, ys, [], c, d, rfl, rfl, hc, hd, by simp, ⟨NA.out, NB.out, fun _ h => h, fun _ h => h, hST.out, rfl⟩⟩
  case round =>
    obtain ⟨a', b', zs, us, ps, c', d', rfl, rfl, h2, h3, hb, h4⟩ := hrel
    have hS := h4.out.2.2.2.2.1
    obtain ⟨a5, c5, rfl⟩ := hS.slice
    have HST : Hid (St w wr (.slice a5 ps.length c5) ps) := hS
    have HZ : Hid (Ri wr a' zs) := h4.out.2.2.1 _ (HR.out.keep' hS.bel)
    have HU : Hid (Ri wr b' us) := h4.out.2.2.2.1 _ (HS.out.keep' hS.bel)
    clear hS hST
    by_cases hex : zs = [] ∨ us = []
    · have HE : Hid (ps ++ zs ++ us = uniL xs ys) := hide (by
        rw [← h4.out.2.2.2.2.2, List.append_assoc]
        rcases hex with rfl | rfl
        · simp [uniL]
        · rw [uniL_nil]; simp)
      have HSu := hide h4.out.2.2.2.1
      have nz : a' = none → zs = [] ∧ c' = 0 := fun e => by
        refine ⟨?_, h4.out.1 e⟩
        cases zs with
        | nil => rfl
        | cons y t => obtain ⟨b2, o2, e2⟩ := HZ.out.some; rw [e] at e2; cases e2
      have nu : b' = none → us = [] ∧ d' = 0 := fun e => by
        refine ⟨?_, h4.out.2.1 e⟩
        cases us with
        | nil => rfl
        | cons y t => obtain ⟨b2, o2, e2⟩ := HU.out.some; rw [e] at e2; cases e2
      clear h4
      rcases hex with rfl | rfl
      · cases a' with
        | none =>
          obtain ⟨ez, ec⟩ := nz rfl
          clear ez
          subst ec
          clear nz
          cases b' with
          | none =>
            obtain ⟨eu, ed⟩ := nu rfl
            subst eu
            subst ed
            clear nu
            go_wp2_with (first | (at_builtin; refine wpList_app0 w wr rfl (.tmp 46) (.tmp 47) rfl _ ps HST.out rfl rfl ?_) | (at_builtin; refine wpList_app0 w wr rfl (.tmp 49) (.tmp 50) rfl _ ps HST.out (by simp [go_sem]) rfl ?_))
            all_goals (go_ret; have hE : ps = uniL xs ys := (by have t := HE.out; simpa using t); rw [← hE]; exact ⟨_, _, by simp [go_sem], HST.out.ri, HST.out.cap, HST.out.nn, HST.out.bel⟩)
          | some bd =>
            clear nu
            go_wp2_with (first | (at_builtin; refine wpList_app0 w wr rfl (.tmp 46) (.tmp 47) rfl _ ps HST.out rfl rfl ?_) | (at_builtin; have HU2 := hide (HSu.out _ (HS.out.keep' HST.out.bel)); refine wpList_appN w wr rfl (.tmp 49) (.tmp 50) rfl _ ps us bd d' HST.out (by simp [go_sem]) rfl HU2.out (by simp at *; omega) ?_; intro a3 c3 w3 hS3; replace hS3 := (hide hS3)))
            all_goals (go_ret; have hE : ps ++ us = uniL xs ys := (by have t := HE.out; simpa using t); rw [← hE]; exact ⟨_, _, by simp [go_sem], hS3.out.ri, hS3.out.cap, hS3.out.nn, hS3.out.bel⟩)
        | some ad =>
          clear nz
          cases b' with
          | none =>
            obtain ⟨eu, ed⟩ := nu rfl
            subst eu
            subst ed
            clear nu
            go_wp2_with (first | (at_builtin; refine wpList_appN w wr rfl (.tmp 46) (.tmp 47) rfl _ ps [] ad c' HST.out rfl rfl HZ.out (by simp at *; omega) ?_; intro a2 c2 w2 hS2; replace hS2 := (hide hS2)) | (at_builtin; refine wpList_app0 w w2 rfl (.tmp 49) (.tmp 50) rfl _ (ps ++ []) hS2.out (by simp [go_sem]) rfl ?_))
            all_goals (go_ret; have hE : ps ++ [] = uniL xs ys := (by have t := HE.out; simpa using t); rw [← hE]; exact ⟨_, _, by simp [go_sem], hS2.out.ri, hS2.out.cap, hS2.out.nn, hS2.out.bel⟩)
          | some bd =>
            clear nu
            go_wp2_with (first | (at_builtin; refine wpList_appN w wr rfl (.tmp 46) (.tmp 47) rfl _ ps [] ad c' HST.out rfl rfl HZ.out (by simp at *; omega) ?_; intro a2 c2 w2 hS2; replace hS2 := (hide hS2)) | (at_builtin; have HU2 := hide (HSu.out _ (HS.out.keep' hS2.out.bel)); refine wpList_appN w w2 rfl (.tmp 49) (.tmp 50) rfl _ (ps ++ []) us bd d' hS2.out (by simp [go_sem]) rfl HU2.out (by simp at *; omega) ?_; intro a3 c3 w3 hS3; replace hS3 := (hide hS3)))
            all_goals (go_ret; have hE : (ps ++ []) ++ us = uniL xs ys := (by have t := HE.out; simpa using t); rw [← hE]; exact ⟨_, _, by simp [go_sem], hS3.out.ri, hS3.out.cap, hS3.out.nn, hS3.out.bel⟩)
      · cases a' with
        | none =>
          obtain ⟨ez, ec⟩ := nz rfl
          subst ez
          subst ec
          clear nz
          cases b' with
          | none =>
            obtain ⟨eu, ed⟩ := nu rfl
            clear eu
            subst ed
            clear nu
            go_wp2_with (first | (at_builtin; refine wpList_app0 w wr rfl (.tmp 46) (.tmp 47) rfl _ ps HST.out rfl rfl ?_) | (at_builtin; refine wpList_app0 w wr rfl (.tmp 49) (.tmp 50) rfl _ ps HST.out (by simp [go_sem]) rfl ?_))
            all_goals (go_ret; have hE : ps = uniL xs ys := (by have t := HE.out; simpa using t); rw [← hE]; exact ⟨_, _, by simp [go_sem], HST.out.ri, HST.out.cap, HST.out.nn, HST.out.bel⟩)
          | some bd =>
            clear nu
            go_wp2_with (first | (at_builtin; refine wpList_app0 w wr rfl (.tmp 46) (.tmp 47) rfl _ ps HST.out rfl rfl ?_) | (at_builtin; have HU2 := hide (HSu.out _ (HS.out.keep' HST.out.bel)); refine wpList_appN w wr rfl (.tmp 49) (.tmp 50) rfl _ ps [] bd d' HST.out (by simp [go_sem]) rfl HU2.out (by simp at *; omega) ?_; intro a3 c3 w3 hS3; replace hS3 := (hide hS3)))
            all_goals (go_ret; have hE : ps ++ [] = uniL xs ys := (by have t := HE.out; simpa using t); rw [← hE]; exact ⟨_, _, by simp [go_sem], hS3.out.ri, hS3.out.cap, hS3.out.nn, hS3.out.bel⟩)
        | some ad =>
          clear nz
          cases b' with
          | none =>
            obtain ⟨eu, ed⟩ := nu rfl
            clear eu
            subst ed
            clear nu
            go_wp2_with (first | (at_builtin; refine wpList_appN w wr rfl (.tmp 46) (.tmp 47) rfl _ ps zs ad c' HST.out rfl rfl HZ.out (by simp at *; omega) ?_; intro a2 c2 w2 hS2; replace hS2 := (hide hS2)) | (at_builtin; refine wpList_app0 w w2 rfl (.tmp 49) (.tmp 50) rfl _ (ps ++ zs) hS2.out (by simp [go_sem]) rfl ?_))
            all_goals (go_ret; have hE : ps ++ zs = uniL xs ys := (by have t := HE.out; simpa using t); rw [← hE]; exact ⟨_, _, by simp [go_sem], hS2.out.ri, hS2.out.cap, hS2.out.nn, hS2.out.bel⟩)
          | some bd =>
            clear nu
            go_wp2_with (first | (at_builtin; refine wpList_appN w wr rfl (.tmp 46) (.tmp 47) rfl _ ps zs ad c' HST.out rfl rfl HZ.out (by simp at *; omega) ?_; intro a2 c2 w2 hS2; replace hS2 := (hide hS2)) | (at_builtin; have HU2 := hide (HSu.out _ (HS.out.keep' hS2.out.bel)); refine wpList_appN w w2 rfl (.tmp 49) (.tmp 50) rfl _ (ps ++ zs) [] bd d' hS2.out (by simp [go_sem]) rfl HU2.out (by simp at *; omega) ?_; intro a3 c3 w3 hS3; replace hS3 := (hide hS3)))
            all_goals (go_ret; have hE : (ps ++ zs) ++ [] = uniL xs ys := (by have t := HE.out; simpa using t); rw [← hE]; exact ⟨_, _, by simp [go_sem], hS3.out.ri, hS3.out.cap, hS3.out.nn, hS3.out.bel⟩)
    · cases zs with
      | nil => exact absurd (Or.inl rfl) hex
      | cons x s =>
        cases us with
        | nil => exact absurd (Or.inr rfl) hex
        | cons y t =>
          clear hex
          obtain ⟨bz, oz, rfl, hcell, -⟩ := HZ.out.head
          obtain ⟨bu, ou, rfl, hcell2, -⟩ := HU.out.head
          have h2' : s.length + 1 ≤ c' := by simpa using h2
          have h3' : t.length + 1 ≤ d' := by simpa using h3
          have hp2 : ps.length ≤ 1000000 := by simp at hb; omega
          clear HZ HU
          have S1 : Hid (Su a xs (if c' = 1 then some ⟨bz, oz, none⟩ else some ⟨bz, oz + 1, none⟩) s) := hide (fun w2 h5 => (Ri.tail (h4.out.2.2.1 w2 h5)).step h2')
          have S2 : Hid (Su b ys (if d' = 1 then some ⟨bu, ou, none⟩ else some ⟨bu, ou + 1, none⟩) t) := hide (fun w2 h5 => (Ri.tail (h4.out.2.2.2.1 w2 h5)).step h3')
          have N1 : Hid ((if c' = 1 then some (⟨bz, oz, none⟩ : Addr) else some ⟨bz, oz + 1, none⟩) = none → c' - 1 = 0) := hide (fun e => by split at e <;> cases e)
          have N2 : Hid ((if d' = 1 then some (⟨bu, ou, none⟩ : Addr) else some ⟨bu, ou + 1, none⟩) = none → d' - 1 = 0) := hide (fun e => by split at e <;> cases e)
          have S3 := hide h4.out.2.2.1
          have S4 := hide h4.out.2.2.2.1
          have HE := hide h4.out.2.2.2.2.2
          clear h4
          by_cases hlt : x < y
          · have HE2 : Hid (ps ++ [x] ++ uniL s (y :: t) = uniL xs ys) := hide (by have e := HE.out; rw [uniL, if_pos hlt] at e; simpa using e)
            have hm : min x y = x := by omega
            have q1 : (y == x) = false := beq_eq_false_iff_ne.2 (by omega)
            go_wp2
            go_quiet (fail)
            have HS2 := hide (HST.out.drewN nq)
            go_wp2_with (at_builtin; refine wpList_app1 w (wr.drewN nq) rfl (.tmp 42) (.tmp 44) rfl _ ps x HS2.out (by simp [go_sem]) rfl hp2 ?_; intro a2 c2 w2 hS2; replace hS2 := (hide hS2))
            go_round
            case rel => exact ⟨_, _, s, y :: t, ps ++ [x], c' - 1, d', rfl, rfl, by first | exact h2 | omega, by first | exact h3 | omega, by simp at *; omega, ⟨N1.out, (fun e => by cases e), S1.out, S4.out, by simpa using hS2.out, HE2.out⟩⟩
            case measure => simp [lenOf]; try omega
          by_cases hgt : y < x
          · have HE2 : Hid (ps ++ [y] ++ uniL (x :: s) t = uniL xs ys) := hide (by have e := HE.out; rw [uniL, if_neg hlt, if_pos hgt] at e; simpa using e)
            have hm : min x y = y := by omega
            have q1 : (x == y) = false := beq_eq_false_iff_ne.2 (by omega)
            go_wp2
            go_quiet (fail)
            have HS2 := hide (HST.out.drewN nq)
            go_wp2_with (at_builtin; refine wpList_app1 w (wr.drewN nq) rfl (.tmp 42) (.tmp 44) rfl _ ps y HS2.out (by simp [go_sem]) rfl hp2 ?_; intro a2 c2 w2 hS2; replace hS2 := (hide hS2))
            go_round
            case rel => exact ⟨_, _, x :: s, t, ps ++ [y], c', d' - 1, rfl, rfl, by first | exact h2 | omega, by first | exact h3 | omega, by simp at *; omega, ⟨(fun e => by cases e), N2.out, S3.out, S2.out, by simpa using hS2.out, HE2.out⟩⟩
            case measure => simp [lenOf]; try omega
          · have HE2 : Hid (ps ++ [x] ++ uniL s t = uniL xs ys) := hide (by have e := HE.out; rw [uniL, if_neg hlt, if_neg hgt] at e; simpa using e)
            obtain rfl : x = y := by omega
            have hm : min x x = x := by omega
            go_wp2
            go_quiet (fail)
            have HS2 := hide (HST.out.drewN nq)
            go_wp2_with (at_builtin; refine wpList_app1 w (wr.drewN nq) rfl (.tmp 42) (.tmp 44) rfl _ ps x HS2.out (by simp [go_sem]) rfl hp2 ?_; intro a2 c2 w2 hS2; replace hS2 := (hide hS2))
            go_round
            case rel => exact ⟨_, _, s, t, ps ++ [x], c' - 1, d' - 1, rfl, rfl, by first | exact h2 | omega, by first | exact h3 | omega, by simp at *; omega, ⟨N1.out, N2.out, S1.out, S2.out, by simpa using hS2.out, HE2.out⟩⟩
            case measure => simp [lenOf]; try omega
end Go.Proofs.Ytmhicllhjiglkaa
namespace Go.Proofs.Ytmhicllhjiglkaa
open Go.RowKit
theorem bbound_any (n : Int) (w : World) : Calls Try.prog 108 #[.int .i64 n] w fun e w' => w' = w ∧ e = .returned (.bool (decide (0 ≤ n) && decide (n ≤ 4096))) := by
  by_cases h0 : 0 ≤ n
  · go_enter Try.func108, Try.ntmps108
    go_wp2
    go_ret
    exact ⟨rfl, by simp [h0]⟩
  · have e : decide (0 ≤ n) = false := decide_eq_false h0
    rw [e]
    have h1 : n < 0 := by omega
    go_enter Try.func108, Try.ntmps108
    go_wp2
    go_ret
    exact ⟨rfl, by simp⟩
/-- numbers that rise, from least on, below n -/
def rightL (n : Int) : Int → List Int → Bool
  | _, [] => true
  | least, x :: t => if x < least ∨ n ≤ x then false else rightL n (x + 1) t
set_option maxRecDepth 100000 in
set_option maxHeartbeats 4000000 in
theorem bright_any (n : Int) (xs : List Int) (a : Option Addr) (c : Nat) (w : World) (hr : Ri w a xs) (hc : xs.length ≤ 9223372036854775807) :
    Calls Try.prog 60 #[.int .i64 n, .slice a xs.length c] w fun e w' => w' = w ∧ e = .returned (.bool ((decide (0 ≤ n) && decide (n ≤ 4096)) && rightL n 0 xs)) := by
  have HR : Hid (Ri w a xs) := hr
  clear hr
  have hb := bbound_any n w
  by_cases hn : 0 ≤ n ∧ n ≤ 4096
  · have e : (decide (0 ≤ n) && decide (n ≤ 4096)) = true := by simp [hn.1, hn.2]
    rw [e] at hb ⊢
    clear e
    obtain ⟨n0, n1⟩ := hn
    go_enter Try.func60, Try.ntmps60
    go_wp2_with (go_at_call 108; refine hb.mono ?_; rintro e w' ⟨h, rfl⟩; obtain rfl := h.symm)
    clear hb
    go_loop [5, 13] (fun s5 s13 => ∃ (k : Nat) (l : Int), s13 = .int .i64 k ∧ s5 = .int .i64 l ∧ k ≤ xs.length ∧ 0 ≤ l ∧ l ≤ 4096 ∧ Hid (rightL n l (xs.drop k) = rightL n 0 xs)) (fun _ s13 => xs.length - (intOf s13).toNat)
    case atStart => exact ⟨0, 0, rfl, rfl, Nat.zero_le _, by omega, by omega, rfl⟩
    case round =>
      obtain ⟨k, l, rfl, rfl, hk, l0, l1, h4⟩ := hrel
      by_cases hk2 : k = xs.length
      · subst hk2
        go_wp2
        go_ret
        refine ⟨rfl, ?_⟩
        rw [← h4.out]; simp [rightL]
      · have hlt : k < xs.length := by omega
        have hlt' : (k : Int) < xs.length := by omega
        obtain ⟨ab, ao, rfl, hcell⟩ := HR.out.at hlt
        have HD : Hid (rightL n 0 xs = if xs.getD k 0 < l ∨ n ≤ xs.getD k 0 then false else rightL n (xs.getD k 0 + 1) (xs.drop (k + 1))) := by
          unfold Hid
          rw [← h4.out, List.drop_eq_getElem_cons hlt, show xs[k] = xs.getD k 0 by simp [hlt]]
          rfl
        clear h4
        generalize xs.getD k 0 = x at *
        by_cases hx : x < l ∨ n ≤ x
        · have HN : Hid (rightL n 0 xs = false) := hide (HD.out.trans (if_pos hx))
          clear HD
          rcases hx with hx | hx
          · go_wp2
            go_ret
            exact ⟨rfl, by rw [HN.out]; rfl⟩
          · by_cases hx2 : x < l
            · go_wp2
              go_ret
              exact ⟨rfl, by rw [HN.out]; rfl⟩
            · go_wp2
              go_ret
              exact ⟨rfl, by rw [HN.out]; rfl⟩
        · have HN : Hid (rightL n 0 xs = rightL n (x + 1) (xs.drop (k + 1))) := hide (HD.out.trans (if_neg hx))
          have x0 : ¬ x < l := fun t => hx (Or.inl t)
          have x1 : ¬ n ≤ x := fun t => hx (Or.inr t)
          clear HD hx
          go_wp2
          exact ⟨⟨k + 1, x + 1, by simp, rfl, by omega, by omega, by omega, HN.out.symm⟩, by simp [intOf]; omega⟩
  · have e : (decide (0 ≤ n) && decide (n ≤ 4096)) = false := by
      rw [Bool.and_eq_false_iff, decide_eq_false_iff_not, decide_eq_false_iff_not]; omega
    rw [e] at hb ⊢
    clear e
    go_enter Try.func60, Try.ntmps60
    go_wp2_with (go_at_call 108; refine hb.mono ?_; rintro e w' ⟨h, rfl⟩; obtain rfl := h.symm)
    go_ret
    exact ⟨rfl, by simp⟩
end Go.Proofs.Ytmhicllhjiglkaa
namespace Go.Proofs.Ytmhicllhjiglkaa
open Go.RowKit
set_option maxRecDepth 100000 in
set_option maxHeartbeats 8000000 in
theorem brright_any (n : Int) (xs : List Int) (a : Option Addr) (c : Nat) (w : World) (hr : Ri w a xs) (hc : xs.length ≤ 100000) :
    Calls Try.prog 62 #[.int .i64 n, .slice a xs.length c] w fun e w' => (∃ j, w' = w.drewN j) ∧ e = .returned (.bool ((decide (0 ≤ n) && decide (n ≤ 4096)) && rightL n 0 xs)) := by
  have HR : Hid (Ri w a xs) := hr
  clear hr
  by_cases hn0 : n < 0
  · have e : decide (0 ≤ n) = false := decide_eq_false (by omega)
    rw [e]
    go_enter Try.func62, Try.ntmps62
    go_wp2
    go_ret
    exact ⟨⟨0, rfl⟩, by simp⟩
  by_cases hn1 : 4096 < n
  · have e : decide (n ≤ 4096) = false := decide_eq_false (by omega)
    rw [e]
    go_enter Try.func62, Try.ntmps62
    go_wp2
    go_ret
    exact ⟨⟨0, rfl⟩, by simp⟩
  have e : (decide (0 ≤ n) && decide (n ≤ 4096)) = true := by simp; omega
  rw [e, Bool.true_and]
  clear e
  go_enter Try.func62, Try.ntmps62
  go_wp2_with fail
  go_loopw [5] (fun s5 wr => ∃ (k j : Nat) (l : Int), wr = w.drewN j ∧ s5 = .int .i64 k ∧ k ≤ xs.length ∧ 0 ≤ l ∧ (k = 0 → l = 0) ∧ Hid ((k ≠ 0 → xs.getD (k - 1) 0 + 1 = l) ∧ rightL n l (xs.drop k) = rightL n 0 xs ∧ l ≤ n + 1)) (fun s5 _ => xs.length - (intOf s5).toNat)
  case atStart => exact ⟨0, 0, 0, rfl, rfl, Nat.zero_le _, Int.le_refl _, fun _ => rfl, ⟨fun h => absurd rfl h, rfl, by omega⟩⟩
  case round =>
    obtain ⟨k, j, l, rfl, rfl, hk, hl0, hkl, h4⟩ := hrel
    by_cases hk2 : k = xs.length
    · have hk3 : ¬ (k : Int) < xs.length := by omega
      have HE : Hid (rightL n 0 xs = true) := by
        unfold Hid
        rw [← h4.out.2.1, List.drop_of_length_le (by omega)]; rfl
      go_wp2
      go_ret
      exact ⟨⟨j, rfl⟩, by rw [HE.out]; rfl⟩
    · have hlt : k < xs.length := by omega
      have hlt' : (k : Int) < xs.length := by omega
      have HD : Hid (xs.drop k = xs.getD k 0 :: xs.drop (k + 1)) := by
        unfold Hid
        rw [List.drop_eq_getElem_cons hlt]; simp [hlt]
      obtain ⟨ab, ao, rfl, hcell⟩ := HR.out.at hlt
      obtain ⟨h41, h42, h43⟩ := h4.out
      rw [HD.out, rightL] at h42
      obtain ⟨x, hx⟩ : ∃ x, x = xs.getD k 0 := ⟨_, rfl⟩
      rw [← hx] at h42 hcell
      have HK : Hid (xs.getD (k + 1 - 1) 0 + 1 = x + 1) := by unfold Hid; rw [hx]; simp
      clear hx h4 HD
      have hk0 : (0 : Int) ≤ k := by omega
      by_cases x0 : x < 0
      · rw [if_pos (by omega)] at h42
        have HF := hide h42
        clear h42 h41 hkl
        go_wp2
        go_quiet (fail)
        go_wp2
        go_ret
        exact ⟨⟨_, by rw [World.drewN_drewN]⟩, by rw [← HF.out]; rfl⟩
      have d0 : decide (x < 0) = false := decide_eq_false x0
      by_cases x1 : n ≤ x
      · rw [if_pos (by omega)] at h42
        have HF := hide h42
        clear h42 h41 hkl
        go_wp2
        go_quiet (fail)
        go_wp2
        go_ret
        exact ⟨⟨_, by rw [World.drewN_drewN]⟩, by rw [← HF.out]; rfl⟩
      have d1 : decide (n ≤ x) = false := decide_eq_false x1
      by_cases k0 : k = 0
      · obtain rfl := hkl k0
        rw [if_neg (by omega)] at h42
        have HF := hide h42
        have x5 : x + 1 ≤ n + 1 := by omega
        have x6 : 0 ≤ x + 1 := by omega
        clear h42 h41 hkl h43
        subst k0
        rw [Nat.add_zero] at hcell
        go_wp2
        go_quiet (fail)
        go_wp2
        exact ⟨⟨0 + 1, _, x + 1, rfl, by simp, by omega, x6, fun h => absurd h (by omega), ⟨fun _ => HK.out, HF.out, x5⟩⟩, by simp [intOf]; omega⟩
      have hlast := h41 k0
      have hlt2 : k - 1 < xs.length := by omega
      obtain ⟨ab2, ao2, eab, hcell2⟩ := HR.out.at hlt2
      obtain ⟨rfl, rfl⟩ : ab = ab2 ∧ ao = ao2 := by simpa using eab
      generalize xs.getD (k - 1) 0 = y at *
      obtain ⟨k1, hk1⟩ : ∃ k1 : Nat, k1 = k - 1 := ⟨_, rfl⟩
      have ek1 : (k : Int) - 1 = k1 := by omega
      rw [← hk1] at hcell2
      have hk1a : (0 : Int) ≤ k1 := by omega
      have hk1b : (k1 : Int) < xs.length := by omega
      have hkp : (0 : Int) < k := by omega
      have hkp2 : 0 < k := by omega
      have hkd : decide ((0 : Int) < (k : Int)) = true := decide_eq_true hkp
      by_cases x2 : x ≤ y
      · rw [if_pos (by omega)] at h42
        have HF := hide h42
        clear h42 h41 hkl hk1 eab hlast k0
        go_wp2
        go_quiet (fail)
        go_wp2
        go_ret
        exact ⟨⟨_, by rw [World.drewN_drewN]⟩, by rw [← HF.out]; rfl⟩
      · rw [if_neg (by omega)] at h42
        have HF := hide h42
        have d3 : decide (x ≤ y) = false := decide_eq_false x2
        have x5 : x + 1 ≤ n + 1 := by omega
        have x6 : 0 ≤ x + 1 := by omega
        clear h42 h41 hkl hk1 eab hlast k0 h43
        go_wp2
        go_quiet (fail)
        go_wp2
        exact ⟨⟨k + 1, _, x + 1, rfl, by simp, by omega, x6, fun h => absurd h (by omega), ⟨fun _ => HK.out, HF.out, x5⟩⟩, by simp [intOf]; omega⟩
end Go.Proofs.Ytmhicllhjiglkaa
namespace Go.Proofs.Ytmhicllhjiglkaa
open Go.RowKit
/-- a block of a Value that may be written -/
def Rw (w : World) (q : Nat) : Prop := ∃ s k n lo hi p, Br w q s k n lo hi p ∧ Fz w q
theorem Rw.lt {w : World} {q : Nat} (h : Rw w q) : q < w.heap.size := by obtain ⟨_, _, _, _, _, _, h, _⟩ := h; exact h.lt
theorem Rw.keep {w w' : World} {q : Nat} (h : Rw w q) (hb : Below w.heap.size w w') : Rw w' q := by
  obtain ⟨s, k, n, lo, hi, p, h1, h2⟩ := h
  exact ⟨s, k, n, lo, hi, p, h1.keep hb, h2.keep h1.lt hb⟩
theorem Rw.put {w : World} {q : Nat} (h : Rw w q) (s : Int) (k : Bool) (n lo hi p : Int) : Rw (st6 w q (.int .i64 s) (.bool k) (.int .i64 n) (.int .i64 lo) (.int .i64 hi) (.int .i64 p)) q := by
  obtain ⟨s0, k0, n0, lo0, hi0, p0, h1, h2⟩ := h
  exact ⟨s, k, n, lo, hi, p, h1.wrote s k n lo hi p, h2.put _ _ _ _ _ _⟩
theorem Rw.puto {w : World} {q r : Nat} (h : Rw w r) (hq : r ≠ q) (a b c d e f : Value) : Rw (st6 w q a b c d e f) r := by
  obtain ⟨s0, k0, n0, lo0, hi0, p0, h1, h2⟩ := h
  exact ⟨s0, k0, n0, lo0, hi0, p0, h1.put hq _ _ _ _ _ _, h2.put _ _ _ _ _ _⟩
set_option maxRecDepth 100000 in
set_option maxHeartbeats 16000000 in
theorem to_V (s : Int) (k : Bool) (n lo hi p : Int) (w : World) : Calls Try.prog 26 #[.agg #[.int .i64 s, .bool k, .int .i64 n, .int .i64 lo, .int .i64 hi, .int .i64 p]] w fun e w' => e = .returned (.agg #[.int .i64 s, .bool k, .int .i64 n, .int .i64 lo, .int .i64 hi, .int .i64 p]) ∧ Below w.heap.size w w' := by
  have x0 : Br ((w.alloc (.cells #[.int .i64 s, .bool k, .int .i64 n, .int .i64 lo, .int .i64 hi, .int .i64 p] 48)).alloc (.cells #[.int .i64 0, .bool false, .int .i64 0, .int .i64 0, .int .i64 0, .int .i64 0] 53)) (w.heap.size) s k n lo hi p := ((Br.new w s k n lo hi p 48)).keep ((Below.refl _ _).alloc (Nat.le_refl _) _)
  have x1 : Br ((w.alloc (.cells #[.int .i64 s, .bool k, .int .i64 n, .int .i64 lo, .int .i64 hi, .int .i64 p] 48)).alloc (.cells #[.int .i64 0, .bool false, .int .i64 0, .int .i64 0, .int .i64 0, .int .i64 0] 53)) (w.heap.size + 1) 0 false 0 0 0 0 := (by simpa using Br.new (w.alloc (.cells #[.int .i64 s, .bool k, .int .i64 n, .int .i64 lo, .int .i64 hi, .int .i64 p] 48)) 0 false 0 0 0 0 53 : Br ((w.alloc (.cells #[.int .i64 s, .bool k, .int .i64 n, .int .i64 lo, .int .i64 hi, .int .i64 p] 48)).alloc (.cells #[.int .i64 0, .bool false, .int .i64 0, .int .i64 0, .int .i64 0, .int .i64 0] 53)) (w.heap.size + 1) 0 false 0 0 0 0)
  have xf : Fz ((w.alloc (.cells #[.int .i64 s, .bool k, .int .i64 n, .int .i64 lo, .int .i64 hi, .int .i64 p] 48)).alloc (.cells #[.int .i64 0, .bool false, .int .i64 0, .int .i64 0, .int .i64 0, .int .i64 0] 53)) (w.heap.size + 1) := by simpa using Fz.new (w.alloc (.cells #[.int .i64 s, .bool k, .int .i64 n, .int .i64 lo, .int .i64 hi, .int .i64 p] 48)) 0 false 0 0 0 0 53
  have xb : Below w.heap.size w ((w.alloc (.cells #[.int .i64 s, .bool k, .int .i64 n, .int .i64 lo, .int .i64 hi, .int .i64 p] 48)).alloc (.cells #[.int .i64 0, .bool false, .int .i64 0, .int .i64 0, .int .i64 0, .int .i64 0] 53)) := (by repeat (first | exact Below.refl _ _ | (refine Below.drew ?_) | (refine below_drewN ?_ _) | (refine Below.setCell ?_ (by first | omega | (simp; done) | (simp; omega)) _) | (refine Below.alloc ?_ (by first | omega | (simp; done) | (simp; omega)) _) | (refine Below.trans ?_ (Below.mono (by assumption) (by first | omega | (simp; done) | (simp; omega))))))
  go_enter Try.func26, Try.ntmps26
  go_upto_region 1 with fail
  go_name_world W hW
  rw [hW] at x0 x1 xf xb
  clear hW
  obtain ⟨N, hN⟩ : ∃ N, N = w.heap.size := ⟨_, rfl⟩
  rw [← hN] at x0 x1 xf xb ⊢
  have HN : Hid (N = w.heap.size) := hN
  clear hN
  have HCL : Hid (∀ a b : World, (a.cell? ⟨N, 0, none⟩ = some (.int .i64 s) ∧ a.cell? ⟨N, 1, none⟩ = some (.bool k) ∧ a.cell? ⟨N, 2, none⟩ = some (.int .i64 n) ∧ a.cell? ⟨N, 3, none⟩ = some (.int .i64 lo) ∧ a.cell? ⟨N, 4, none⟩ = some (.int .i64 hi) ∧ a.cell? ⟨N, 5, none⟩ = some (.int .i64 p) ∧ Hid (Br a N s k n lo hi p ∧ Rw a (N + 1) ∧ Below N w a)) → Below a.heap.size a b → (b.cell? ⟨N, 0, none⟩ = some (.int .i64 s) ∧ b.cell? ⟨N, 1, none⟩ = some (.bool k) ∧ b.cell? ⟨N, 2, none⟩ = some (.int .i64 n) ∧ b.cell? ⟨N, 3, none⟩ = some (.int .i64 lo) ∧ b.cell? ⟨N, 4, none⟩ = some (.int .i64 hi) ∧ b.cell? ⟨N, 5, none⟩ = some (.int .i64 p) ∧ Hid (Br b N s k n lo hi p ∧ Rw b (N + 1) ∧ Below N w b))) := fun a b h hb => by
    have y := (h.2.2.2.2.2.2).out
    have z : Br b N s k n lo hi p ∧ Rw b (N + 1) ∧ Below N w b := ⟨y.1.keep hb, y.2.1.keep hb, y.2.2.trans (hb.mono (Nat.le_of_lt y.1.lt))⟩
    exact ⟨z.1.c0, z.1.c1, z.1.c2, z.1.c3, z.1.c4, z.1.c5, z⟩
  have z0 : Br W N s k n lo hi p ∧ Rw W (N + 1) ∧ Below N w W := ⟨x0, ⟨_, _, _, _, _, _, x1, xf⟩, xb⟩
  have hS0 : W.cell? ⟨N, 0, none⟩ = some (.int .i64 s) ∧ W.cell? ⟨N, 1, none⟩ = some (.bool k) ∧ W.cell? ⟨N, 2, none⟩ = some (.int .i64 n) ∧ W.cell? ⟨N, 3, none⟩ = some (.int .i64 lo) ∧ W.cell? ⟨N, 4, none⟩ = some (.int .i64 hi) ∧ W.cell? ⟨N, 5, none⟩ = some (.int .i64 p) ∧ Hid (Br W N s k n lo hi p ∧ Rw W (N + 1) ∧ Below N w W) := ⟨z0.1.c0, z0.1.c1, z0.1.c2, z0.1.c3, z0.1.c4, z0.1.c5, z0⟩
  clear x0 x1 xf xb z0
  refine wp_region_held_drew (S := fun w' => w'.cell? ⟨N, 0, none⟩ = some (.int .i64 s) ∧ w'.cell? ⟨N, 1, none⟩ = some (.bool k) ∧ w'.cell? ⟨N, 2, none⟩ = some (.int .i64 n) ∧ w'.cell? ⟨N, 3, none⟩ = some (.int .i64 lo) ∧ w'.cell? ⟨N, 4, none⟩ = some (.int .i64 hi) ∧ w'.cell? ⟨N, 5, none⟩ = some (.int .i64 p) ∧ Hid (Br w' N s k n lo hi p ∧ Rw w' (N + 1) ∧ Below N w w')) (by kernel_rfl) (HCL.out _ _ hS0 ((Below.refl _ _).drew)) (fun hHeld => ?_)
  refine wpAnyH_take (i := 0) (oi := ({ dst := some 3, op := Op.fieldAddr 48 (Operand.tmp 1) 0, type := 0, pos := _, after := _, guard := _ } : Oper)) (v := ?_) rfl (by kernel_rfl) (by kernel_rfl) (by kernel_rfl) (fun _ _ _ h => h) (Or.inl ⟨by rfl, ?_⟩) (by assumption) ?_
  rotate_left
  · (intro wz hSw; (try dsimp only at hSw); go_simp; try with_reducible rfl)
  simp only [Act.put, List.setIfInBounds_toArray, List.set_cons_zero, List.set_cons_succ]
  refine wpAnyH_take (i := 1) (oi := ({ dst := some 4, op := Op.load 3 (Operand.tmp 3), type := 3, pos := _, after := _, guard := _ } : Oper)) (v := ?_) rfl (by kernel_rfl) (by kernel_rfl) (by kernel_rfl) (fun _ _ _ h => h) (Or.inl ⟨by rfl, ?_⟩) (by assumption) ?_
  rotate_left
  · (intro wz hSw; (try dsimp only at hSw); go_simp; try with_reducible rfl)
  simp only [Act.put, List.setIfInBounds_toArray, List.set_cons_zero, List.set_cons_succ]
  refine wpAnyH_take (i := 2) (oi := ({ dst := some 5, op := Op.fieldAddr 48 (Operand.tmp 1) 1, type := 0, pos := _, after := _, guard := _ } : Oper)) (v := ?_) rfl (by kernel_rfl) (by kernel_rfl) (by kernel_rfl) (fun _ _ _ h => h) (Or.inl ⟨by rfl, ?_⟩) (by assumption) ?_
  rotate_left
  · (intro wz hSw; (try dsimp only at hSw); go_simp; try with_reducible rfl)
  simp only [Act.put, List.setIfInBounds_toArray, List.set_cons_zero, List.set_cons_succ]
  refine wpAnyH_take (i := 3) (oi := ({ dst := some 6, op := Op.load 44 (Operand.tmp 5), type := 44, pos := _, after := _, guard := _ } : Oper)) (v := ?_) rfl (by kernel_rfl) (by kernel_rfl) (by kernel_rfl) (fun _ _ _ h => h) (Or.inl ⟨by rfl, ?_⟩) (by assumption) ?_
  rotate_left
  · (intro wz hSw; (try dsimp only at hSw); go_simp; try with_reducible rfl)
  simp only [Act.put, List.setIfInBounds_toArray, List.set_cons_zero, List.set_cons_succ]
  refine wpAnyH_take (i := 5) (oi := ({ dst := some 8, op := Op.fieldAddr 48 (Operand.tmp 1) 2, type := 0, pos := _, after := _, guard := _ } : Oper)) (v := ?_) rfl (by kernel_rfl) (by kernel_rfl) (by kernel_rfl) (fun _ _ _ h => h) (Or.inl ⟨by rfl, ?_⟩) (by assumption) ?_
  rotate_left
  · (intro wz hSw; (try dsimp only at hSw); go_simp; try with_reducible rfl)
  simp only [Act.put, List.setIfInBounds_toArray, List.set_cons_zero, List.set_cons_succ]
  refine wpAnyH_take (i := 6) (oi := ({ dst := some 9, op := Op.load 46 (Operand.tmp 8), type := 46, pos := _, after := _, guard := _ } : Oper)) (v := ?_) rfl (by kernel_rfl) (by kernel_rfl) (by kernel_rfl) (fun _ _ _ h => h) (Or.inl ⟨by rfl, ?_⟩) (by assumption) ?_
  rotate_left
  · (intro wz hSw; (try dsimp only at hSw); go_simp; try with_reducible rfl)
  simp only [Act.put, List.setIfInBounds_toArray, List.set_cons_zero, List.set_cons_succ]
  refine wpAnyH_take (i := 8) (oi := ({ dst := some 11, op := Op.fieldAddr 48 (Operand.tmp 1) 3, type := 0, pos := _, after := _, guard := _ } : Oper)) (v := ?_) rfl (by kernel_rfl) (by kernel_rfl) (by kernel_rfl) (fun _ _ _ h => h) (Or.inl ⟨by rfl, ?_⟩) (by assumption) ?_
  rotate_left
  · (intro wz hSw; (try dsimp only at hSw); go_simp; try with_reducible rfl)
  simp only [Act.put, List.setIfInBounds_toArray, List.set_cons_zero, List.set_cons_succ]
  refine wpAnyH_take (i := 9) (oi := ({ dst := some 12, op := Op.load 3 (Operand.tmp 11), type := 3, pos := _, after := _, guard := _ } : Oper)) (v := ?_) rfl (by kernel_rfl) (by kernel_rfl) (by kernel_rfl) (fun _ _ _ h => h) (Or.inl ⟨by rfl, ?_⟩) (by assumption) ?_
  rotate_left
  · (intro wz hSw; (try dsimp only at hSw); go_simp; try with_reducible rfl)
  simp only [Act.put, List.setIfInBounds_toArray, List.set_cons_zero, List.set_cons_succ]
  refine wpAnyH_ready (rs := [4]) (by kernel_rfl) (by simp) ?_
  refine AllReadyH.cons (o := ({ dst := some 7, op := Op.call { callee := Callee.value (Operand.func 65), args := #[Operand.tmp 6], argTypes := #[44] }, type := 50, pos := _, after := _, guard := _ } : Oper)) rfl (fun K hK => ?_) AllReadyH.nil
  go_simp
  go_at_call 65
  refine (lift (bel2 (kto_any _ _ _)) (by assumption) HCL.out).mono ?_
  rintro e v1 ⟨rfl, g1⟩
  refine hK.out _ _ g1 (fun hHeld => ?_)
  clear hK K
  refine wpAnyH_ready (rs := [7]) (by kernel_rfl) (by simp) ?_
  refine AllReadyH.cons (o := ({ dst := some 10, op := Op.call { callee := Callee.value (Operand.func 66), args := #[Operand.tmp 9], argTypes := #[46] }, type := 51, pos := _, after := _, guard := _ } : Oper)) rfl (fun K hK => ?_) AllReadyH.nil
  go_simp
  go_at_call 66
  refine (lift (bel2 (nto_any _ _ _)) (by assumption) HCL.out).mono ?_
  rintro e v2 ⟨rfl, g2⟩
  refine hK.out _ _ g2 (fun hHeld => ?_)
  clear hK K
  refine wpAnyH_take (i := 10) (oi := ({ dst := some 13, op := Op.build 53 #[(0, Operand.tmp 4), (1, Operand.tmp 7), (2, Operand.tmp 10), (3, Operand.tmp 12)], type := 53, pos := _, after := _, guard := _ } : Oper)) (v := ?_) rfl (by kernel_rfl) (by kernel_rfl) (by kernel_rfl) (fun _ _ _ h => h) (Or.inl ⟨by rfl, ?_⟩) (by assumption) ?_
  rotate_left
  · (intro wz hSw; (try dsimp only at hSw); go_simp; try with_reducible rfl)
  simp only [Act.put, List.setIfInBounds_toArray, List.set_cons_zero, List.set_cons_succ]
  refine wpAnyH_ready (rs := [11]) (by kernel_rfl) (by simp) ?_
  refine AllReadyH.cons (o := ({ dst := none, op := Op.store 53 (Operand.tmp 2) (Operand.tmp 13), type := 0, pos := _, after := _, guard := _ } : Oper)) rfl (fun K hK => ?_) AllReadyH.nil
  have zz := (hHeld.2.2.2.2.2.2).out
  obtain ⟨s9, k9, n9, lo9, hi9, p9, zb, zf⟩ := zz.2.1
  have zc0 := zb.c0
  have zf0 := zf.f0
  have zc1 := zb.c1
  have zf1 := zf.f1
  have zc2 := zb.c2
  have zf2 := zf.f2
  have zc3 := zb.c3
  have zf3 := zf.f3
  have zc4 := zb.c4
  have zf4 := zf.f4
  have zc5 := zb.c5
  have zf5 := zf.f5
  go_simp
  have zw := zb.wrote s k n lo hi p
  have zi : Br (st6 v2 (N + 1) (.int .i64 s) (.bool k) (.int .i64 n) (.int .i64 lo) (.int .i64 hi) (.int .i64 p)) N s k n lo hi p ∧ Rw (st6 v2 (N + 1) (.int .i64 s) (.bool k) (.int .i64 n) (.int .i64 lo) (.int .i64 hi) (.int .i64 p)) (N + 1) ∧ Below N w (st6 v2 (N + 1) (.int .i64 s) (.bool k) (.int .i64 n) (.int .i64 lo) (.int .i64 hi) (.int .i64 p)) := ⟨zz.1.put (by omega) _ _ _ _ _ _, zz.2.1.put s k n lo hi p, st6_below zz.2.2 _ (by omega) _ _ _ _ _ _⟩
  refine hK.out _ _ ⟨zi.1.c0, zi.1.c1, zi.1.c2, zi.1.c3, zi.1.c4, zi.1.c5, zi⟩ (fun _ => ?_)
  clear hK K zc0 zf0 zc1 zf1 zc2 zf2 zc3 zf3 zc4 zf4 zc5 zf5
  refine wpAnyH_done (by kernel_rfl) ?_ _
  clear hS0 HCL hHeld g1 g2
  have c0 := zw.c0
  have c1 := zw.c1
  have c2 := zw.c2
  have c3 := zw.c3
  have c4 := zw.c4
  have c5 := zw.c5
  have hB := zi.2.2
  clear zi zw zb zf zz
  go_wp2_with fail
  refine bodyPost_ret (by simp [results, Try.results26, go_sem, *]; try rfl) rfl ⟨?_, by rw [← HN.out]; exact hB⟩
  rfl
set_option maxRecDepth 100000 in
set_option maxHeartbeats 16000000 in
theorem from_V (s : Int) (k : Bool) (n lo hi p : Int) (w : World) : Calls Try.prog 85 #[.agg #[.int .i64 s, .bool k, .int .i64 n, .int .i64 lo, .int .i64 hi, .int .i64 p]] w fun e w' => e = .returned (.agg #[.int .i64 s, .bool k, .int .i64 n, .int .i64 lo, .int .i64 hi, .int .i64 p]) ∧ Below w.heap.size w w' := by
  have x0 : Br ((w.alloc (.cells #[.int .i64 s, .bool k, .int .i64 n, .int .i64 lo, .int .i64 hi, .int .i64 p] 53)).alloc (.cells #[.int .i64 0, .bool false, .int .i64 0, .int .i64 0, .int .i64 0, .int .i64 0] 48)) (w.heap.size) s k n lo hi p := ((Br.new w s k n lo hi p 53)).keep ((Below.refl _ _).alloc (Nat.le_refl _) _)
  have x1 : Br ((w.alloc (.cells #[.int .i64 s, .bool k, .int .i64 n, .int .i64 lo, .int .i64 hi, .int .i64 p] 53)).alloc (.cells #[.int .i64 0, .bool false, .int .i64 0, .int .i64 0, .int .i64 0, .int .i64 0] 48)) (w.heap.size + 1) 0 false 0 0 0 0 := (by simpa using Br.new (w.alloc (.cells #[.int .i64 s, .bool k, .int .i64 n, .int .i64 lo, .int .i64 hi, .int .i64 p] 53)) 0 false 0 0 0 0 48 : Br ((w.alloc (.cells #[.int .i64 s, .bool k, .int .i64 n, .int .i64 lo, .int .i64 hi, .int .i64 p] 53)).alloc (.cells #[.int .i64 0, .bool false, .int .i64 0, .int .i64 0, .int .i64 0, .int .i64 0] 48)) (w.heap.size + 1) 0 false 0 0 0 0)
  have xf : Fz ((w.alloc (.cells #[.int .i64 s, .bool k, .int .i64 n, .int .i64 lo, .int .i64 hi, .int .i64 p] 53)).alloc (.cells #[.int .i64 0, .bool false, .int .i64 0, .int .i64 0, .int .i64 0, .int .i64 0] 48)) (w.heap.size + 1) := by simpa using Fz.new (w.alloc (.cells #[.int .i64 s, .bool k, .int .i64 n, .int .i64 lo, .int .i64 hi, .int .i64 p] 53)) 0 false 0 0 0 0 48
  have xb : Below w.heap.size w ((w.alloc (.cells #[.int .i64 s, .bool k, .int .i64 n, .int .i64 lo, .int .i64 hi, .int .i64 p] 53)).alloc (.cells #[.int .i64 0, .bool false, .int .i64 0, .int .i64 0, .int .i64 0, .int .i64 0] 48)) := (by repeat (first | exact Below.refl _ _ | (refine Below.drew ?_) | (refine below_drewN ?_ _) | (refine Below.setCell ?_ (by first | omega | (simp; done) | (simp; omega)) _) | (refine Below.alloc ?_ (by first | omega | (simp; done) | (simp; omega)) _) | (refine Below.trans ?_ (Below.mono (by assumption) (by first | omega | (simp; done) | (simp; omega))))))
  go_enter Try.func85, Try.ntmps85
  go_upto_region 1 with fail
  go_name_world W hW
  rw [hW] at x0 x1 xf xb
  clear hW
  obtain ⟨N, hN⟩ : ∃ N, N = w.heap.size := ⟨_, rfl⟩
  rw [← hN] at x0 x1 xf xb ⊢
  have HN : Hid (N = w.heap.size) := hN
  clear hN
  have HCL : Hid (∀ a b : World, (a.cell? ⟨N, 0, none⟩ = some (.int .i64 s) ∧ a.cell? ⟨N, 1, none⟩ = some (.bool k) ∧ a.cell? ⟨N, 2, none⟩ = some (.int .i64 n) ∧ a.cell? ⟨N, 3, none⟩ = some (.int .i64 lo) ∧ a.cell? ⟨N, 4, none⟩ = some (.int .i64 hi) ∧ a.cell? ⟨N, 5, none⟩ = some (.int .i64 p) ∧ Hid (Br a N s k n lo hi p ∧ Rw a (N + 1) ∧ Below N w a)) → Below a.heap.size a b → (b.cell? ⟨N, 0, none⟩ = some (.int .i64 s) ∧ b.cell? ⟨N, 1, none⟩ = some (.bool k) ∧ b.cell? ⟨N, 2, none⟩ = some (.int .i64 n) ∧ b.cell? ⟨N, 3, none⟩ = some (.int .i64 lo) ∧ b.cell? ⟨N, 4, none⟩ = some (.int .i64 hi) ∧ b.cell? ⟨N, 5, none⟩ = some (.int .i64 p) ∧ Hid (Br b N s k n lo hi p ∧ Rw b (N + 1) ∧ Below N w b))) := fun a b h hb => by
    have y := (h.2.2.2.2.2.2).out
    have z : Br b N s k n lo hi p ∧ Rw b (N + 1) ∧ Below N w b := ⟨y.1.keep hb, y.2.1.keep hb, y.2.2.trans (hb.mono (Nat.le_of_lt y.1.lt))⟩
    exact ⟨z.1.c0, z.1.c1, z.1.c2, z.1.c3, z.1.c4, z.1.c5, z⟩
  have z0 : Br W N s k n lo hi p ∧ Rw W (N + 1) ∧ Below N w W := ⟨x0, ⟨_, _, _, _, _, _, x1, xf⟩, xb⟩
  have hS0 : W.cell? ⟨N, 0, none⟩ = some (.int .i64 s) ∧ W.cell? ⟨N, 1, none⟩ = some (.bool k) ∧ W.cell? ⟨N, 2, none⟩ = some (.int .i64 n) ∧ W.cell? ⟨N, 3, none⟩ = some (.int .i64 lo) ∧ W.cell? ⟨N, 4, none⟩ = some (.int .i64 hi) ∧ W.cell? ⟨N, 5, none⟩ = some (.int .i64 p) ∧ Hid (Br W N s k n lo hi p ∧ Rw W (N + 1) ∧ Below N w W) := ⟨z0.1.c0, z0.1.c1, z0.1.c2, z0.1.c3, z0.1.c4, z0.1.c5, z0⟩
  clear x0 x1 xf xb z0
  refine wp_region_held_drew (S := fun w' => w'.cell? ⟨N, 0, none⟩ = some (.int .i64 s) ∧ w'.cell? ⟨N, 1, none⟩ = some (.bool k) ∧ w'.cell? ⟨N, 2, none⟩ = some (.int .i64 n) ∧ w'.cell? ⟨N, 3, none⟩ = some (.int .i64 lo) ∧ w'.cell? ⟨N, 4, none⟩ = some (.int .i64 hi) ∧ w'.cell? ⟨N, 5, none⟩ = some (.int .i64 p) ∧ Hid (Br w' N s k n lo hi p ∧ Rw w' (N + 1) ∧ Below N w w')) (by kernel_rfl) (HCL.out _ _ hS0 ((Below.refl _ _).drew)) (fun hHeld => ?_)
  refine wpAnyH_take (i := 0) (oi := ({ dst := some 3, op := Op.fieldAddr 53 (Operand.tmp 1) 0, type := 0, pos := _, after := _, guard := _ } : Oper)) (v := ?_) rfl (by kernel_rfl) (by kernel_rfl) (by kernel_rfl) (fun _ _ _ h => h) (Or.inl ⟨by rfl, ?_⟩) (by assumption) ?_
  rotate_left
  · (intro wz hSw; (try dsimp only at hSw); go_simp; try with_reducible rfl)
  simp only [Act.put, List.setIfInBounds_toArray, List.set_cons_zero, List.set_cons_succ]
  refine wpAnyH_take (i := 1) (oi := ({ dst := some 4, op := Op.load 3 (Operand.tmp 3), type := 3, pos := _, after := _, guard := _ } : Oper)) (v := ?_) rfl (by kernel_rfl) (by kernel_rfl) (by kernel_rfl) (fun _ _ _ h => h) (Or.inl ⟨by rfl, ?_⟩) (by assumption) ?_
  rotate_left
  · (intro wz hSw; (try dsimp only at hSw); go_simp; try with_reducible rfl)
  simp only [Act.put, List.setIfInBounds_toArray, List.set_cons_zero, List.set_cons_succ]
  refine wpAnyH_take (i := 2) (oi := ({ dst := some 5, op := Op.fieldAddr 53 (Operand.tmp 1) 1, type := 0, pos := _, after := _, guard := _ } : Oper)) (v := ?_) rfl (by kernel_rfl) (by kernel_rfl) (by kernel_rfl) (fun _ _ _ h => h) (Or.inl ⟨by rfl, ?_⟩) (by assumption) ?_
  rotate_left
  · (intro wz hSw; (try dsimp only at hSw); go_simp; try with_reducible rfl)
  simp only [Act.put, List.setIfInBounds_toArray, List.set_cons_zero, List.set_cons_succ]
  refine wpAnyH_take (i := 3) (oi := ({ dst := some 6, op := Op.load 50 (Operand.tmp 5), type := 50, pos := _, after := _, guard := _ } : Oper)) (v := ?_) rfl (by kernel_rfl) (by kernel_rfl) (by kernel_rfl) (fun _ _ _ h => h) (Or.inl ⟨by rfl, ?_⟩) (by assumption) ?_
  rotate_left
  · (intro wz hSw; (try dsimp only at hSw); go_simp; try with_reducible rfl)
  simp only [Act.put, List.setIfInBounds_toArray, List.set_cons_zero, List.set_cons_succ]
  refine wpAnyH_take (i := 5) (oi := ({ dst := some 8, op := Op.fieldAddr 53 (Operand.tmp 1) 2, type := 0, pos := _, after := _, guard := _ } : Oper)) (v := ?_) rfl (by kernel_rfl) (by kernel_rfl) (by kernel_rfl) (fun _ _ _ h => h) (Or.inl ⟨by rfl, ?_⟩) (by assumption) ?_
  rotate_left
  · (intro wz hSw; (try dsimp only at hSw); go_simp; try with_reducible rfl)
  simp only [Act.put, List.setIfInBounds_toArray, List.set_cons_zero, List.set_cons_succ]
  refine wpAnyH_take (i := 6) (oi := ({ dst := some 9, op := Op.load 51 (Operand.tmp 8), type := 51, pos := _, after := _, guard := _ } : Oper)) (v := ?_) rfl (by kernel_rfl) (by kernel_rfl) (by kernel_rfl) (fun _ _ _ h => h) (Or.inl ⟨by rfl, ?_⟩) (by assumption) ?_
  rotate_left
  · (intro wz hSw; (try dsimp only at hSw); go_simp; try with_reducible rfl)
  simp only [Act.put, List.setIfInBounds_toArray, List.set_cons_zero, List.set_cons_succ]
  refine wpAnyH_take (i := 8) (oi := ({ dst := some 11, op := Op.fieldAddr 53 (Operand.tmp 1) 3, type := 0, pos := _, after := _, guard := _ } : Oper)) (v := ?_) rfl (by kernel_rfl) (by kernel_rfl) (by kernel_rfl) (fun _ _ _ h => h) (Or.inl ⟨by rfl, ?_⟩) (by assumption) ?_
  rotate_left
  · (intro wz hSw; (try dsimp only at hSw); go_simp; try with_reducible rfl)
  simp only [Act.put, List.setIfInBounds_toArray, List.set_cons_zero, List.set_cons_succ]
  refine wpAnyH_take (i := 9) (oi := ({ dst := some 12, op := Op.load 3 (Operand.tmp 11), type := 3, pos := _, after := _, guard := _ } : Oper)) (v := ?_) rfl (by kernel_rfl) (by kernel_rfl) (by kernel_rfl) (fun _ _ _ h => h) (Or.inl ⟨by rfl, ?_⟩) (by assumption) ?_
  rotate_left
  · (intro wz hSw; (try dsimp only at hSw); go_simp; try with_reducible rfl)
  simp only [Act.put, List.setIfInBounds_toArray, List.set_cons_zero, List.set_cons_succ]
  refine wpAnyH_ready (rs := [4]) (by kernel_rfl) (by simp) ?_
  refine AllReadyH.cons (o := ({ dst := some 7, op := Op.call { callee := Callee.value (Operand.func 128), args := #[Operand.tmp 6], argTypes := #[50] }, type := 44, pos := _, after := _, guard := _ } : Oper)) rfl (fun K hK => ?_) AllReadyH.nil
  go_simp
  go_at_call 128
  refine (lift (bel2 (kfrom_any _ _ _)) (by assumption) HCL.out).mono ?_
  rintro e v1 ⟨rfl, g1⟩
  refine hK.out _ _ g1 (fun hHeld => ?_)
  clear hK K
  refine wpAnyH_ready (rs := [7]) (by kernel_rfl) (by simp) ?_
  refine AllReadyH.cons (o := ({ dst := some 10, op := Op.call { callee := Callee.value (Operand.func 129), args := #[Operand.tmp 9], argTypes := #[51] }, type := 46, pos := _, after := _, guard := _ } : Oper)) rfl (fun K hK => ?_) AllReadyH.nil
  go_simp
  go_at_call 129
  refine (lift (bel2 (nfrom_any _ _ _)) (by assumption) HCL.out).mono ?_
  rintro e v2 ⟨rfl, g2⟩
  refine hK.out _ _ g2 (fun hHeld => ?_)
  clear hK K
  refine wpAnyH_take (i := 10) (oi := ({ dst := some 13, op := Op.build 48 #[(0, Operand.tmp 4), (1, Operand.tmp 7), (2, Operand.tmp 10), (3, Operand.tmp 12)], type := 48, pos := _, after := _, guard := _ } : Oper)) (v := ?_) rfl (by kernel_rfl) (by kernel_rfl) (by kernel_rfl) (fun _ _ _ h => h) (Or.inl ⟨by rfl, ?_⟩) (by assumption) ?_
  rotate_left
  · (intro wz hSw; (try dsimp only at hSw); go_simp; try with_reducible rfl)
  simp only [Act.put, List.setIfInBounds_toArray, List.set_cons_zero, List.set_cons_succ]
  refine wpAnyH_ready (rs := [11]) (by kernel_rfl) (by simp) ?_
  refine AllReadyH.cons (o := ({ dst := none, op := Op.store 48 (Operand.tmp 2) (Operand.tmp 13), type := 0, pos := _, after := _, guard := _ } : Oper)) rfl (fun K hK => ?_) AllReadyH.nil
  have zz := (hHeld.2.2.2.2.2.2).out
  obtain ⟨s9, k9, n9, lo9, hi9, p9, zb, zf⟩ := zz.2.1
  have zc0 := zb.c0
  have zf0 := zf.f0
  have zc1 := zb.c1
  have zf1 := zf.f1
  have zc2 := zb.c2
  have zf2 := zf.f2
  have zc3 := zb.c3
  have zf3 := zf.f3
  have zc4 := zb.c4
  have zf4 := zf.f4
  have zc5 := zb.c5
  have zf5 := zf.f5
  go_simp
  have zw := zb.wrote s k n lo hi p
  have zi : Br (st6 v2 (N + 1) (.int .i64 s) (.bool k) (.int .i64 n) (.int .i64 lo) (.int .i64 hi) (.int .i64 p)) N s k n lo hi p ∧ Rw (st6 v2 (N + 1) (.int .i64 s) (.bool k) (.int .i64 n) (.int .i64 lo) (.int .i64 hi) (.int .i64 p)) (N + 1) ∧ Below N w (st6 v2 (N + 1) (.int .i64 s) (.bool k) (.int .i64 n) (.int .i64 lo) (.int .i64 hi) (.int .i64 p)) := ⟨zz.1.put (by omega) _ _ _ _ _ _, zz.2.1.put s k n lo hi p, st6_below zz.2.2 _ (by omega) _ _ _ _ _ _⟩
  refine hK.out _ _ ⟨zi.1.c0, zi.1.c1, zi.1.c2, zi.1.c3, zi.1.c4, zi.1.c5, zi⟩ (fun _ => ?_)
  clear hK K zc0 zf0 zc1 zf1 zc2 zf2 zc3 zf3 zc4 zf4 zc5 zf5
  refine wpAnyH_done (by kernel_rfl) ?_ _
  clear hS0 HCL hHeld g1 g2
  have c0 := zw.c0
  have c1 := zw.c1
  have c2 := zw.c2
  have c3 := zw.c3
  have c4 := zw.c4
  have c5 := zw.c5
  have hB := zi.2.2
  clear zi zw zb zf zz
  go_wp2_with fail
  refine bodyPost_ret (by simp [results, Try.results85, go_sem, *]; try rfl) rfl ⟨?_, by rw [← HN.out]; exact hB⟩
  rfl
end Go.Proofs.Ytmhicllhjiglkaa
/- Frames and owned objects, over any program. -/
namespace Go.Proofs.Ytmhicllhjiglkaa
open Go.RowKit

/-- w' is w but for new blocks and for what S names. -/
structure Fr (S : Nat → Prop) (w w' : World) : Prop where
  os : w'.os = w.os
  tape : w'.tape = w.tape
  output : w'.output = w.output
  size : w.heap.size ≤ w'.heap.size
  block : ∀ k, k < w.heap.size → ¬ S k → w'.heap[k]? = w.heap[k]?

theorem Fr.refl (S : Nat → Prop) (w : World) : Fr S w w := ⟨rfl, rfl, rfl, Nat.le_refl _, fun _ _ _ => rfl⟩
theorem Fr.trans {S : Nat → Prop} {a b c : World} (h : Fr S a b) (k : Fr S b c) : Fr S a c :=
  ⟨k.os.trans h.os, k.tape.trans h.tape, k.output.trans h.output, Nat.le_trans h.size k.size, fun j hj hs => (k.block j (Nat.lt_of_lt_of_le hj h.size) hs).trans (h.block j hj hs)⟩
/-- two steps; what the second one names is named by the whole, or is new to the first world -/
theorem Fr.trans' {S T U : Nat → Prop} {a b c : World} (h : Fr S a b) (k : Fr T b c) (hS : ∀ j, j < a.heap.size → S j → U j) (hT : ∀ j, j < a.heap.size → T j → U j) : Fr U a c :=
  ⟨k.os.trans h.os, k.tape.trans h.tape, k.output.trans h.output, Nat.le_trans h.size k.size, fun j hj hu =>
    (k.block j (Nat.lt_of_lt_of_le hj h.size) (fun x => hu (hT j hj x))).trans (h.block j hj (fun x => hu (hS j hj x)))⟩
theorem Fr.mono {S T : Nat → Prop} {a b : World} (h : Fr S a b) (hS : ∀ j, j < a.heap.size → S j → T j) : Fr T a b :=
  ⟨h.os, h.tape, h.output, h.size, fun j hj hu => h.block j hj (fun x => hu (hS j hj x))⟩
theorem Fr.drew {S : Nat → Prop} {a w : World} (h : Fr S a w) : Fr S a w.drew := ⟨h.os, h.tape, h.output, h.size, h.block⟩
theorem Fr.alloc {S : Nat → Prop} {a w : World} (h : Fr S a w) (o : Obj) : Fr S a (w.alloc o) :=
  ⟨h.os, h.tape, h.output, by have := h.size; simp; omega, fun k hk hs => (Below.heap_alloc w o k (Nat.lt_of_lt_of_le hk h.size)).trans (h.block k hk hs)⟩
theorem Fr.setCell {S : Nat → Prop} {a w : World} (h : Fr S a w) (p : Addr) (hp : p.block < a.heap.size → S p.block) (u : Value) : Fr S a (w.setCell p u) :=
  ⟨h.os, h.tape, h.output, by have := h.size; simpa using this, fun k hk hs => (Below.heap_setCell w p u k (fun e => hs (e ▸ hp (e ▸ hk)))).trans (h.block k hk hs)⟩
theorem Fr.grown {S : Nat → Prop} {a w w' : World} {row : Option Nat} (h : Fr S a w) (hg : w.grownBy w' row) (hr : ∀ k, row = some k → k < a.heap.size → S k) : Fr S a w' :=
  ⟨hg.os.trans h.os, hg.tape.trans h.tape, hg.output.trans h.output, Nat.le_trans h.size hg.size, fun k hk hs =>
    (hg.block k (Nat.lt_of_lt_of_le hk h.size) (fun e => hs (hr k e.symm hk))).trans (h.block k hk hs)⟩
theorem Fr.below {S : Nat → Prop} {w w' : World} {B : Nat} (h : Fr S w w') (hB : B ≤ w.heap.size) (hS : ∀ k, S k → B ≤ k) : Below B w w' :=
  ⟨h.os, h.tape, h.output, h.size, fun k hk => h.block k (by omega) (fun x => by have := hS k x; omega)⟩
theorem Fr.ofBelow {w w' : World} {S : Nat → Prop} (h : Below w.heap.size w w') : Fr S w w' :=
  ⟨h.os, h.tape, h.output, h.size, fun k hk _ => h.block k hk⟩
theorem Fr.cell {S : Nat → Prop} {w w' : World} (h : Fr S w w') {p : Addr} {v : Value} (hc : w.cell? p = some v) (hs : ¬ S p.block) : w'.cell? p = some v :=
  (World.cell?_of_block (h.block p.block (World.block_lt_of_cell? w p hc) hs)).trans hc
theorem Fr.heap {S : Nat → Prop} {w w' : World} (h : Fr S w w') {k : Nat} {o : Obj} (hc : w.heap[k]? = some o) (hs : ¬ S k) : w'.heap[k]? = some o := by
  have hk : k < w.heap.size := by
    rcases Nat.lt_or_ge k w.heap.size with x | x
    · exact x
    · rw [Array.getElem?_eq_none x] at hc; cases hc
  exact (h.block k hk hs).trans hc
theorem heap_lt {w : World} {k : Nat} {o : Obj} (hc : w.heap[k]? = some o) : k < w.heap.size := by
  rcases Nat.lt_or_ge k w.heap.size with x | x
  · exact x
  · rw [Array.getElem?_eq_none x] at hc; cases hc

/-- bytes, as cells -/
def B8 (bs : List UInt8) : List Value := bs.map fun c => .int .u8 (c.toNat : Int)
theorem B8_append (a b : List UInt8) : B8 (a ++ b) = B8 a ++ B8 b := by simp [B8]
theorem B8_length (a : List UInt8) : (B8 a).length = a.length := by simp [B8]

/-- an owned row, in another world that has its block -/
theorem ownsRow_heap {w w' : World} {base e size n : Nat} {v : Value} {xs : List Value} (h : w.ownsRow base e size v n xs) (hb : ∀ k, v.ownBlock = some k → w'.heap[k]? = w.heap[k]?) : w'.ownsRow base e size v n xs := by
  refine ⟨h.1, ?_⟩
  rcases h.2 with ⟨rfl, rfl⟩ | ⟨g, cap, cur, rfl, h1, h2, h3, h4, h5, h6⟩
  · exact .inl ⟨rfl, rfl⟩
  · exact .inr ⟨g, cap, cur, rfl, h1, (hb g rfl).trans h2, h3, h4, h5, h6⟩

theorem ownsRow_slice {w : World} {base e size n : Nat} {v : Value} {xs : List Value} (h : w.ownsRow base e size v n xs) : ∃ a c, v = .slice a n c := by
  rcases h.2 with ⟨rfl, rfl⟩ | ⟨g, cap, cur, rfl, _⟩
  · exact ⟨none, 0, rfl⟩
  · exact ⟨_, _, rfl⟩

section
variable {P : Program} (w : World)
/-- append onto an owned row, and where its row lies then: where it lay, or in a new block. -/
theorem run_append_where (t ty e : TypeId) (i : TypeInfo) (z : Value) (size bytes : Nat) (ht : P.underlying t = some (.slice e)) (hi : P.info? e = some i) (hz : i.zero = some z)
    (hsize : i.size = size) (hby : i.bytes = bytes) (hzs : z.cells.size = size) (hsz : 0 < size)
    (v : Value) (n : Nat) (xs : List Value) (hown : w.ownsRow 0 e size v n xs)
    (a : Addr) (m c : Nat) (news : List Value) (hl : news.length = m * size) (hnews : ∀ j u, news[j]? = some u → w.cell? (a.add j) = some u) (h1 : ∀ u ∈ news, u.oneCell' = true)
    (h63 : n + m ≤ maxLen) (hbytes : (n + m) * bytes ≤ 140737488355328) :
    ∃ v' w', (Builtin.append_ #[t, t] ty #[v, .slice (some a) m c]).run P w = .ok v' w' ∧ w'.ownsRow 0 e size v' (n + m) (xs ++ news) ∧ w.grownBy w' v.ownBlock ∧
      (v'.ownBlock = v.ownBlock ∨ v'.ownBlock = some w.heap.size) := by
  obtain ⟨v', w', hr, ho, hg, hn⟩ := run_append_own (P := P) w 0 t ty e i z size bytes ht hi hz hsize hby hzs hsz v n xs hown a m c news hl hnews h1 h63 hbytes (Nat.zero_le _)
  refine ⟨v', w', hr, ho, hg, ?_⟩
  have hsmall : n + m ≤ 9223372036854775807 := by simp only [maxLen] at h63; omega
  subst hsize
  subst hby
  rcases hown.2 with ⟨rfl, rfl⟩ | ⟨g, cap, cur, rfl, hbg, hgc, hnc, hcm, hcs, htake⟩
  · by_cases hm : m = 0
    · exact .inl (by rw [hn.2 ⟨rfl, hm⟩])
    · have hx := run_append_nil (P := P) w t ty e i z ht hi hz a m c news hl hnews (by omega) (by omega) (by have hb := hbytes; simp only [Nat.zero_add] at hb; omega)
      rw [hr] at hx
      injection hx with h2 h3
      exact .inr (by rw [h2]; rfl)
  · by_cases hroom : n + m ≤ cap
    · have hfit : n * i.size + news.length ≤ cur.size := by rw [hl, hcs, ← Nat.add_mul]; exact Nat.mul_le_mul_right _ hroom
      have hx := run_append_room (P := P) w t ty e i ht hi g n cap cur hgc a m c news hl hnews h1 hroom hfit
      rw [hr] at hx
      injection hx with h2 h3
      exact .inl (by rw [h2]; rfl)
    · have holds : ∀ j u, xs[j]? = some u → w.cell? ((⟨g, 0, none⟩ : Addr).add j) = some u := hown.cells (g := g) rfl
      have hx := run_append_grow (P := P) w t ty e i z ht hi hz ⟨g, 0, none⟩ n cap xs hown.1 holds a m c news hl hnews (by omega) (by omega) (growslice_fits (by omega) hbytes)
      rw [hr] at hx
      injection hx with h2 h3
      exact .inr (by rw [h2]; rfl)

theorem wpList_append_where {ops : Array Oper} {rest : List Oper} {o : Oper} {a : Act} {Q : Exit → Act → World → Prop} (hgd : o.guard = none) (s x : Operand) (t : TypeId)
    (ho : o.op = .call { callee := .builtin .append, args := #[s, x], argTypes := #[t, t] })
    (e : TypeId) (i : TypeInfo) (z : Value) (size bytes : Nat) (ht : P.underlying t = some (.slice e)) (hi : P.info? e = some i) (hz : i.zero = some z)
    (hsize : i.size = size) (hby : i.bytes = bytes) (hzs : z.cells.size = size) (hsz : 0 < size)
    (v : Value) (n : Nat) (xs : List Value) (hs : a.eval s = v) (hown : w.ownsRow 0 e size v n xs)
    (ad : Addr) (m c : Nat) (news : List Value) (hx : a.eval x = .slice (some ad) m c) (hl : news.length = m * size) (hnews : ∀ j u, news[j]? = some u → w.cell? (ad.add j) = some u) (h1 : ∀ u ∈ news, u.oneCell' = true)
    (h63 : n + m ≤ maxLen) (hbytes : (n + m) * bytes ≤ 140737488355328)
    (h : ∀ a' c' w', w'.ownsRow 0 e size (.slice a' (n + m) c') (n + m) (xs ++ news) → w.grownBy w' v.ownBlock → ((Value.slice a' (n + m) c').ownBlock = v.ownBlock ∨ (Value.slice a' (n + m) c').ownBlock = some w.heap.size) → wpList P ops Q rest (a.put o.dst (.slice a' (n + m) c')) w') : wpList P ops Q (o :: rest) a w := by
  refine wpList_plain hgd fun K hK => ?_
  obtain ⟨v', w', hr, h2, h3, h4⟩ := run_append_where (P := P) w t o.type e i z size bytes ht hi hz hsize hby hzs hsz v n xs hown ad m c news hl hnews h1 h63 hbytes
  obtain ⟨a', c', rfl⟩ := ownsRow_slice h2
  unfold Oper.wp execOp
  simp only [ho, resolve, invoke, builtin, Sem.run_bind, Sem.run_pure, Result.andThen_ok, List.map_toArray, List.map_cons, List.map_nil, hs, hx, hr]
  exact hK _ _ (h a' c' w' h2 h3 h4)
end
end Go.Proofs.Ytmhicllhjiglkaa
