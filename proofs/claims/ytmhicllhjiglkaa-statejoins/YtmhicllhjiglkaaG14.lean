import Derived.Test.YtmhicllhjiglkaaG10
import Derived.Test.YtmhicllhjiglkaaG06
import Derived.Test.YtmhicllhjiglkaaG13
import Derived.Test.YtmhicllhjiglkaaG11
import Derived.Deep.RegionHeld3
import Derived.Test.YtmhicllhjiglkaaG03
import Derived.Test.YtmhicllhjiglkaaG01
import Derived.Lib.BufferMore
namespace Go.Proofs.Ytmhicllhjiglkaa
open Go.RowKit
set_option maxRecDepth 100000 in
set_option maxHeartbeats 8000000 in
theorem rightr_S (a b : Option Addr) (c d : Nat) (r : Bool) (vs : List R) (ss : List (List Int)) (regs sites : Int) (w : World) (hv : RV w a vs) (hs : RR w b ss) (hl1 : vs.length ≤ 100000) (hl3 : ∀ (m : Nat) (l : List Int), ss[m]? = some l → l.length ≤ 100000) :
    Calls Try.prog 24 #[.agg #[.bool r, .slice a vs.length c, .slice b ss.length d], .int .i64 regs, .int .i64 sites] w fun e w' => e = .returned (.bool (rightS r vs ss regs sites)) ∧ Below w.heap.size w w' := by
  have HV := hide hv
  have HR := hide hs
  have HL3 := hide hl3
  have hl2 : (vs.length : Int) ≤ 100000 := by omega
  clear hv hs hl3
  cases r with
  | false =>
    by_cases h1 : vs.length = 0
    · by_cases h2 : ss.length = 0
      · have e : rightS false vs ss regs sites = true := by simp [rightS, h1, h2]
        rw [e]
        have b1 : ((vs.length : Int) == 0) = true := by simp [h1]
        have b2 : ((ss.length : Int) == 0) = true := by simp [h2]
        clear h1 h2 e
        go_enter Try.func24, Try.ntmps24
        go_wp2
        go_ret
        exact ⟨by simp, (Below.refl _ _).alloc (Nat.le_refl _) _⟩
      · have e : rightS false vs ss regs sites = false := by simp [rightS, h1, h2]
        rw [e]
        have b1 : ((vs.length : Int) == 0) = true := by simp [h1]
        have b2 : ((ss.length : Int) == 0) = false := beq_eq_false_iff_ne.2 (by omega)
        clear h1 h2 e
        go_enter Try.func24, Try.ntmps24
        go_wp2
        go_ret
        exact ⟨by simp, (Below.refl _ _).alloc (Nat.le_refl _) _⟩
    · have e : rightS false vs ss regs sites = false := by simp [rightS, h1]
      rw [e]
      have b1 : ((vs.length : Int) == 0) = false := beq_eq_false_iff_ne.2 (by omega)
      clear h1 e
      go_enter Try.func24, Try.ntmps24
      go_wp2
      go_ret
      exact ⟨by simp, (Below.refl _ _).alloc (Nat.le_refl _) _⟩
  | true =>
    by_cases h1 : (vs.length : Int) = regs
    · subst h1
      by_cases h2 : ss.length = vs.length
      · have e : rightS true vs ss vs.length sites = rightL2 sites vs ss := by simp [rightS, h2]
        rw [e]
        have b1 : ((vs.length : Int) != vs.length) = false := by simp
        have b2 : ((ss.length : Int) != vs.length) = false := by simp [h2]
        have h2' := hide h2
        clear h2 e
        go_enter Try.func24, Try.ntmps24
        go_upto_region 5 with fail
        go_name_world W hW
        obtain ⟨q0, h0⟩ : ∃ z9, z9 = w.heap.size := ⟨_, rfl⟩
        rw [← h0]
        have FQ : Hid (w.heap.size ≤ q0) := by unfold Hid; omega
        have H1 : Hid (Bs W q0 true (.slice a vs.length c) (.slice b ss.length d) ∧ Below w.heap.size w W) := by
          unfold Hid
          obtain ⟨B0, -, u⟩ := box1 w _ _ _ _ W hW
          rw [h0]
          exact ⟨B0, u⟩
        clear hW h0 b1 b2
        go_wp2_with fail
        go_loopw [7] (fun sk wr => ∃ (k : Nat), sk = .int .i64 k ∧ k ≤ vs.length ∧ Hid (Bs wr q0 true (.slice a vs.length c) (.slice b ss.length d) ∧ Below w.heap.size w wr ∧ rightL2 sites (vs.drop k) (ss.drop k) = rightL2 sites vs ss)) (fun sk _ => vs.length - (intOf sk).toNat)
        case atStart => exact ⟨0, rfl, Nat.zero_le _, H1.out.1, H1.out.2, rfl⟩
        case round =>
          obtain ⟨k, rfl, hk, h4⟩ := hrel
          clear H1
          by_cases hkv : k < vs.length
          · have hkv2 : (k : Int) < vs.length := by omega
            have hks : k < ss.length := by have := h2'.out; omega
            have hks2 : (k : Int) < ss.length := by omega
            obtain ⟨b1, o1, x, hX, rfl, hx6⟩ := HV.out.at hkv
            obtain ⟨b2, o2, l, ai, ci, hX2, rfl, hc1, hc2, hc3, hc4⟩ := HR.out.at hks
            have hl := HL3.out k l hX2
            have HD : Hid (rightL2 sites vs ss = ((rightR x.s x.k x.n x.lo x.hi x.p && ((decide (0 ≤ sites) && decide (sites ≤ 4096)) && rightL sites 0 l)) && rightL2 sites (vs.drop (k + 1)) (ss.drop (k + 1)))) := hide (by
              rw [← h4.out.2.2, List.drop_eq_getElem_cons hkv, List.drop_eq_getElem_cons hks]
              obtain ⟨_, e1⟩ := List.getElem?_eq_some_iff.1 hX
              obtain ⟨_, e2⟩ := List.getElem?_eq_some_iff.1 hX2
              rw [e1, e2]; rfl)
            have t6 := hx6.keep h4.out.2.1
            have d0 := t6.c0
            have d1 := t6.c1
            have d2 := t6.c2
            have d3 := t6.c3
            have d4 := t6.c4
            have d5 := t6.c5
            have e1 := h4.out.1.c1
            have HB := hide h4.out.1
            have HW := hide h4.out.2.1
            have HC := hide hc1
            have HI := hide hc2
            clear hX hX2 hx6 t6 h4 hc1 hc2 hc3 hc4
            have cF := fun w => rightr_V x.s x.k x.n x.lo x.hi x.p w
            generalize rightR x.s x.k x.n x.lo x.hi x.p = bv at *
            cases bv with
            | false =>
              have HE : Hid (rightL2 sites vs ss = false) := hide (by rw [HD.out]; rfl)
              clear HD
              go_wp2_with (go_at_call 61; refine (cF _).mono ?_; rintro e wA ⟨rfl, hA⟩; have bA := hide hA; clear hA)
              go_ret
              exact ⟨by rw [HE.out]; rfl, HW.out.trans (bA.out.mono HW.out.size)⟩
            | true =>
              have HD2 : Hid (rightL2 sites vs ss = (((decide (0 ≤ sites) && decide (sites ≤ 4096)) && rightL sites 0 l) && rightL2 sites (vs.drop (k + 1)) (ss.drop (k + 1)))) := hide (by rw [HD.out, Bool.true_and])
              clear HD
              have cB := fun w h => brright_any sites l ai ci w h hl
              generalize ((decide (0 ≤ sites) && decide (sites ≤ 4096)) && rightL sites 0 l) = bb at *
              cases bb with
              | false =>
                have HE : Hid (rightL2 sites vs ss = false) := hide (by rw [HD2.out]; rfl)
                clear HD2
                go_wp2_with (first | (go_at_call 61; refine (cF _).mono ?_; rintro e wA ⟨rfl, hA⟩; have bA := hide hA; have e2 := (HB.out.keep hA).c2; have g2 := ((HW.out.trans (hA.mono HW.out.size)).cell (p := ⟨b2, o2 + k, none⟩) (World.block_lt_of_cell? w _ HC.out)).trans HC.out; clear hA cF d0 d1 d2 d3 d4 d5 e1) | (go_at_call 62; refine (cB _ (HI.out.keep' (HW.out.trans (bA.out.mono HW.out.size)))).mono ?_; rintro e wB ⟨⟨jq, rfl⟩, rfl⟩; replace bA := hide (below_drewN bA.out jq)))
                go_ret
                exact ⟨by rw [HE.out]; rfl, HW.out.trans (bA.out.mono HW.out.size)⟩
              | true =>
                have HE : Hid (rightL2 sites vs ss = rightL2 sites (vs.drop (k + 1)) (ss.drop (k + 1))) := hide (by rw [HD2.out, Bool.true_and])
                clear HD2
                go_wp2_with (first | (go_at_call 61; refine (cF _).mono ?_; rintro e wA ⟨rfl, hA⟩; have bA := hide hA; have e2 := (HB.out.keep hA).c2; have g2 := ((HW.out.trans (hA.mono HW.out.size)).cell (p := ⟨b2, o2 + k, none⟩) (World.block_lt_of_cell? w _ HC.out)).trans HC.out; clear hA cF d0 d1 d2 d3 d4 d5 e1) | (go_at_call 62; refine (cB _ (HI.out.keep' (HW.out.trans (bA.out.mono HW.out.size)))).mono ?_; rintro e wB ⟨⟨jq, rfl⟩, rfl⟩; replace bA := hide (below_drewN bA.out jq)))
                refine ⟨⟨k + 1, by simp, by omega, ⟨HB.out.keep bA.out, HW.out.trans (bA.out.mono HW.out.size), HE.out.symm⟩⟩, by simp [intOf]; omega⟩
          · have hke : k = vs.length := by omega
            subst hke
            have HE : Hid (rightL2 sites vs ss = true) := hide (by rw [← h4.out.2.2, List.drop_of_length_le (Nat.le_refl _)]; rfl)
            go_wp2_with fail
            go_ret
            exact ⟨by rw [HE.out]; rfl, h4.out.2.1⟩
      · have e : rightS true vs ss vs.length sites = false := by simp [rightS]; intro t; omega
        rw [e]
        have b1 : ((vs.length : Int) != vs.length) = false := by simp
        have b2 : ((ss.length : Int) != vs.length) = true := by rw [bne_iff_ne]; omega
        clear h2 e
        go_enter Try.func24, Try.ntmps24
        go_wp2
        go_ret
        exact ⟨by simp, (Below.refl _ _).alloc (Nat.le_refl _) _⟩
    · have e : rightS true vs ss regs sites = false := by simp [rightS, h1]
      rw [e]
      have b1 : ((vs.length : Int) != regs) = true := by rw [bne_iff_ne]; exact h1
      clear h1 e
      go_enter Try.func24, Try.ntmps24
      go_wp2
      go_ret
      exact ⟨by simp, (Below.refl _ _).alloc (Nat.le_refl _) _⟩
end Go.Proofs.Ytmhicllhjiglkaa
namespace Go.Proofs.Ytmhicllhjiglkaa
open Go.RowKit
theorem Rn.st3 {w : World} {N q : Nat} {v : Value} {s : S} (h : Rn w N v s) (hq : q < N) (r : Bool) (va sa : Value) : Rn (st3 w q r va sa) N v s := h.of (fun k hk _ => st3_block w q r va sa k (by omega))
set_option maxRecDepth 100000 in
set_option maxHeartbeats 4000000 in
theorem fix_any (a b : Option Addr) (c d : Nat) (r : Bool) (vs : List R) (ss : List (List Int)) (w : World) (hv : RV w a vs) (hs : RR w b ss) (hvi : ∀ (m : Nat) (x : R), vs[m]? = some x → i64 x.n ∧ i64 x.lo ∧ i64 x.hi) :
    Calls Try.prog 10 #[.agg #[.bool r, .slice a vs.length c, .slice b ss.length d]] w fun e w' => ∃ v, e = .returned v ∧ Below w.heap.size w w' ∧ ∃ s, Rn w' w.heap.size v s ∧ ∃ us, SOk s us 6 70 := by
  have HV := hide hv
  have HR := hide hs
  have cF : ∀ w', Below w.heap.size w w' → Calls Try.prog 38 #[.agg #[.bool r, .slice a vs.length c, .slice b ss.length d], .int .i64 6, .int .i64 70] w' fun e w'' => ∃ v, e = .returned v ∧ Below w'.heap.size w' w'' ∧ ∃ s, Rn w'' w'.heap.size v s ∧ ∃ us, SOk s us 6 70 := fun w' h => fix_S a b c d r vs ss 6 70 w' (hv.keep h) (hs.keep h) hvi (by omega) (by omega) (by omega)
  clear hv hs hvi
  go_enter Try.func10, Try.ntmps10
  go_upto_region 1 with fail
  go_name_world W hW
  obtain ⟨q1, h1⟩ : ∃ z9, z9 = w.heap.size + 1 := ⟨_, rfl⟩
  rw [← h1]
  obtain ⟨q0, h0⟩ : ∃ z9, z9 = w.heap.size := ⟨_, rfl⟩
  rw [← h0]
  obtain ⟨B0, -, B1, F1, u⟩ := boxes2 w _ _ _ _ _ _ _ _ W hW
  have e0 := h0 ▸ B0.c0
  have e1 := h0 ▸ B0.c1
  have e2 := h0 ▸ B0.c2
  rw [← h1] at B1 F1
  have HB1 := hide B1
  have HF1 := hide F1
  have HU := hide u
  have HQ : Hid (w.heap.size ≤ q1) := hide (by omega)
  clear hW B0 B1 F1 h1 h0
  go_wp2_with (go_at_call 38; refine (cF _ HU.out).mono ?_; rintro e wB ⟨v, rfl, hB, s, hR, us, hO⟩; have hR2 := hide hR; obtain ⟨a5, c5, b5, d5, hv5, -⟩ := hR; subst hv5; have z := HB1.out.keep hB; have y := HF1.out.of (hB.block q1 HB1.out.lt); have z0 := z.c0; have z1 := z.c1; have z2 := z.c2; have y0 := y.f0; have y1 := y.f1; have y2 := y.f2; have HZ := hide z; have HBB := hide hB; have HOO := hide hO; clear z y hB hO cF e0 e1 e2)
  have x := HZ.out.put3 s.r (.slice a5 s.vs.length c5) (.slice b5 s.ss.length d5)
  have x0 := x.c0
  have x1 := x.c1
  have x2 := x.c2
  clear z0 z1 z2 y0 y1 y2
  exact bodyPost_ret (by simp [results, Try.results10, go_sem, x0, x1, x2]; try rfl) rfl ⟨_, rfl, st3_below (HU.out.trans (HBB.out.mono HU.out.size)) q1 HQ.out _ _ _, s, (hR2.out.st3 HB1.out.lt _ _ _).mono HU.out.size, us, HOO.out⟩
end Go.Proofs.Ytmhicllhjiglkaa
namespace Go.Proofs.Ytmhicllhjiglkaa
open Go.RowKit
theorem up_17 : ∀ x : BitVec 3, x ≠ 0 → 1 ≤ up x ∧ up x ≤ 7 := by decide
theorem up_13 : ∀ x : BitVec 3, x ≠ 0 → x &&& 3 = x → 1 ≤ up x ∧ up x ≤ 3 := by decide
theorem rightR_ok {u : V} (h : u.ok) : rightR u.raw.s u.raw.k u.raw.n u.raw.lo u.raw.hi u.raw.p = true := by
  have h1 := up_17 u.s h.s
  have h2 := up_13 u.p h.p h.p3
  have h3 := h.sp
  have h4 := h.n
  unfold Sp at h3
  dsimp only at h3
  unfold rightR V.raw rightK
  dsimp only
  cases hk : u.k with
  | true => simp; omega
  | false => rw [h4 hk]; simp; omega
theorem rightL_ok (n : Int) : ∀ (l : List Int) (least : Int), UpP l → (∀ y ∈ l, least ≤ y ∧ y < n) → rightL n least l = true := by
  intro l
  induction l with
  | nil => intro _ _ _; rfl
  | cons x t ih =>
    intro least hu hb
    have h1 := hb x (by simp)
    have h2 := List.pairwise_cons.1 hu
    rw [rightL, if_neg (by omega)]
    exact ih _ h2.2 (fun y hy => by have := h2.1 y hy; have := hb y (by simp [hy]); omega)
theorem rightL2_ok (k : Nat) (hk : k ≤ 4096) : ∀ (us : List V) (ss : List (List Int)), (∀ u ∈ us, u.ok) → (∀ l ∈ ss, UpP l ∧ (∀ y ∈ l, 0 ≤ y ∧ y < (k : Int)) ∧ l.length ≤ 60) → rightL2 k (us.map V.raw) ss = true := by
  intro us
  induction us with
  | nil => intro ss _ _; rfl
  | cons u t ih =>
    intro ss h1 h2
    cases ss with
    | nil => rfl
    | cons l s =>
      have a := rightR_ok (h1 u (by simp))
      have b := h2 l (by simp)
      have c := rightL_ok k l 0 b.1 b.2.1
      have d := ih s (fun v hv => h1 v (by simp [hv])) (fun m hm => h2 m (by simp [hm]))
      show ((rightR u.raw.s u.raw.k u.raw.n u.raw.lo u.raw.hi u.raw.p && ((decide ((0 : Int) ≤ k) && decide ((k : Int) ≤ 4096)) && rightL k 0 l)) && rightL2 k (t.map V.raw) s) = true
      rw [a, c, d]
      simp
      omega
theorem rightS_ok {s : S} {us : List V} {n k : Nat} (h : SOk s us n k) (hk : k ≤ 4096) : rightS s.r s.vs s.ss s.vs.length k = true := by
  have hl : s.vs.length = us.length := by rw [h.vs, List.length_map]
  cases hr : s.r with
  | false =>
    have := h.nr hr
    subst this
    have h2 := h.len
    simp at hl h2
    simp [rightS, hl, h2]
  | true =>
    have e := rightL2_ok k hk us s.ss h.ok h.up
    rw [← h.vs] at e
    simp only [rightS, e]
    simp [h.len, hl]
theorem SOk.inner {s : S} {us : List V} {n k : Nat} (h : SOk s us n k) : ∀ (m : Nat) (l : List Int), s.ss[m]? = some l → l.length ≤ 100000 := fun m l hm => by
  have := (h.up l (List.mem_of_getElem? hm)).2.2
  omega
set_option maxRecDepth 100000 in
set_option maxHeartbeats 8000000 in
theorem stateRight_walk (a b : Option Addr) (c d : Nat) (r : Bool) (vs : List R) (ss : List (List Int)) (regs sites : Int) (w : World) (hv : RV w a vs) (hs : RR w b ss) (hvi : ∀ (m : Nat) (x : R), vs[m]? = some x → i64 x.n ∧ i64 x.lo ∧ i64 x.hi) :
    Calls Try.prog 4 #[.agg #[.bool r, .slice a vs.length c, .slice b ss.length d], .int .i64 regs, .int .i64 sites] w fun e w' => e = .returned (.bool true) ∧ Below w.heap.size w w' := by
  have HVw := hide hv
  have HRw := hide hs
  have cF : ∀ w', Below w.heap.size w w' → Calls Try.prog 10 #[.agg #[.bool r, .slice a vs.length c, .slice b ss.length d]] w' fun e w'' => ∃ v, e = .returned v ∧ Below w'.heap.size w' w'' ∧ ∃ s, Rn w'' w'.heap.size v s ∧ ∃ us, SOk s us 6 70 := fun w' h => fix_any a b c d r vs ss w' (hv.keep h) (hs.keep h) hvi
  clear hv hs hvi
  by_cases h40 : vs.length ≤ 40
  · have i40 : ¬ (vs.length : Int) > 40 := by omega
    by_cases g40 : ss.length ≤ 40
    · have j40 : ¬ (ss.length : Int) > 40 := by omega
      have hl1 : vs.length ≤ 100000 := by omega
      have hl2 : ss.length ≤ 100000 := by omega
      go_enter Try.func4, Try.ntmps4
      go_upto_region 3 with fail
      go_name_world W hW
      obtain ⟨q0, h0⟩ : ∃ z9, z9 = w.heap.size := ⟨_, rfl⟩
      rw [← h0]
      have H1 : Hid (Bs W q0 r (.slice a vs.length c) (.slice b ss.length d) ∧ Below w.heap.size w W) := by
        unfold Hid
        obtain ⟨B0, -, u⟩ := box1 w _ _ _ _ W hW
        rw [h0]
        exact ⟨B0, u⟩
      clear hW h0 i40 j40
      have e2 := H1.out.1.c2
      go_wp2_with fail
      go_loop [7] (fun sk => ∃ (k : Nat), sk = .int .i64 k ∧ k ≤ ss.length ∧ Hid (∀ (m : Nat) (l : List Int), m < k → ss[m]? = some l → l.length ≤ 100)) (fun sk => ss.length - (intOf sk).toNat)
      case atStart => exact ⟨0, rfl, Nat.zero_le _, fun m l hm => by omega⟩
      case round =>
        obtain ⟨k, rfl, hk, h4⟩ := hrel
        by_cases hks : k < ss.length
        · have hks2 : (k : Int) < ss.length := by omega
          obtain ⟨b2, o2, l, ai, ci, hX2, rfl, hc1, -, -, -⟩ := HRw.out.at hks
          have g2 := (H1.out.2.cell (p := ⟨b2, o2 + k, none⟩) (World.block_lt_of_cell? w _ hc1)).trans hc1
          by_cases h100 : l.length ≤ 100
          · have i100 : ¬ (l.length : Int) > 100 := by omega
            have H5 : Hid (∀ (m : Nat) (l : List Int), m < k + 1 → ss[m]? = some l → l.length ≤ 100) := hide (fun m l' hm hml => by
              by_cases e : m = k
              · subst e; rw [hX2] at hml; obtain rfl := Option.some.inj hml; exact h100
              · exact h4.out m l' (by omega) hml)
            clear hX2 hc1 h4
            go_wp2_with fail
            exact ⟨⟨k + 1, by simp, by omega, H5.out⟩, by simp [intOf]; omega⟩
          · have i100 : (l.length : Int) > 100 := by omega
            clear cF
            go_wp2_with (go_at_call 12; refine (told_any _).mono ?_; rintro e wB ⟨rfl, hB⟩; replace hB := hide hB)
            go_ret
            exact ⟨by simp, H1.out.2.trans (hB.out.mono H1.out.2.size)⟩
        · have hke : k = ss.length := by omega
          subst hke
          have HL3 : Hid (∀ (m : Nat) (l : List Int), ss[m]? = some l → l.length ≤ 100000) := hide (fun m l hml => by
            have hm : m < ss.length := by rcases Nat.lt_or_ge m ss.length with t | t; exact t; rw [List.getElem?_eq_none t] at hml; cases hml
            have := h4.out m l hm hml; omega)
          have e0 := H1.out.1.c0
          have e1 := H1.out.1.c1
          clear h4
          go_upto_region 9 with (go_at_call 10; refine (cF _ H1.out.2).mono ?_; rintro e wB ⟨v, rfl, hB, sf, hR, us, hO⟩; replace hB := hide hB; have hR2 := hide hR.rs; obtain ⟨a8, c8, b8, d8, hv5, k1, k2, -⟩ := hR.rs; subst hv5; have HVb := hide k1; have HRb := hide k2; have HO := hide hO; clear hR hO k1 k2 cF e0 e1 e2)
          go_name_world W2 hW2
          obtain ⟨q1, h1⟩ : ∃ z9, z9 = wB.heap.size := ⟨_, rfl⟩
          rw [← h1]
          obtain ⟨B1, -, uB⟩ := box1 wB _ _ _ _ W2 hW2
          rw [← h1] at B1
          have uA := hB.out.trans (uB.mono hB.out.size)
          have BW := hide (H1.out.2.trans (uA.mono H1.out.2.size))
          have B0 := H1.out.1.keep uA
          have HV := hide (HVw.out.keep BW.out)
          have HR := hide (HRw.out.keep BW.out)
          have HV8 := hide (HVb.out.keep uB)
          have HR8 := hide (HRb.out.keep uB)
          have HL8 := hide HO.out.inner
          have hl8 : sf.vs.length ≤ 100000 := by have := HO.out.le; rw [HO.out.vs, List.length_map]; omega
          have hl9 : sf.ss.length ≤ 100000 := by have := HO.out.le; rw [HO.out.len]; omega
          have C8 : Hid (∀ w' a b c d, RV w' a sf.vs → RR w' b sf.ss → Calls Try.prog 23 #[.agg #[.bool sf.r, .slice a sf.vs.length c, .slice b sf.ss.length d], .int .i64 sf.vs.length, .int .i64 70] w' fun e w'' => e = .returned (.bool true) ∧ Below w'.heap.size w' w'') := hide (fun w' a b c d k1 k2 => by
            have t := right_S a b c d sf.r sf.vs sf.ss sf.vs.length 70 w' k1 k2 hl8 HO.out.inner
            have e := rightS_ok HO.out (by omega)
            rw [show ((70 : Nat) : Int) = 70 from rfl] at e
            rw [e] at t
            exact t)
          have HS : Hid (∀ w', Below W2.heap.size W2 w' → (w'.cell? ⟨q0, 0, none⟩ = some (.bool r) ∧ w'.cell? ⟨q0, 1, none⟩ = some (.slice a vs.length c) ∧ w'.cell? ⟨q0, 2, none⟩ = some (.slice b ss.length d) ∧ w'.cell? ⟨q1, 0, none⟩ = some (.bool sf.r) ∧ w'.cell? ⟨q1, 1, none⟩ = some (.slice a8 sf.vs.length c8) ∧ w'.cell? ⟨q1, 2, none⟩ = some (.slice b8 sf.ss.length d8))) := fun w' h => by
            have t0 := B0.keep h
            have t1 := B1.keep h
            exact ⟨t0.c0, t0.c1, t0.c2, t1.c0, t1.c1, t1.c2⟩
          clear hW2 h1 B1 uB uA B0 H1 HVw HRw hB hR2 HVb HRb HO
          refine wp_region_held_drew (S := fun w' => w'.cell? ⟨q0, 0, none⟩ = some (.bool r) ∧ w'.cell? ⟨q0, 1, none⟩ = some (.slice a vs.length c) ∧ w'.cell? ⟨q0, 2, none⟩ = some (.slice b ss.length d) ∧ w'.cell? ⟨q1, 0, none⟩ = some (.bool sf.r) ∧ w'.cell? ⟨q1, 1, none⟩ = some (.slice a8 sf.vs.length c8) ∧ w'.cell? ⟨q1, 2, none⟩ = some (.slice b8 sf.ss.length d8)) (by kernel_rfl) (HS.out _ (Below.refl _ _).drew) (fun hH0 => ?_)
          obtain ⟨w0, hw0⟩ : ∃ w0, w0 = W2.drew := ⟨_, rfl⟩
          (try rw [← hw0] at hH0)
          rw [← hw0]
          have b0 : Hid (Below W2.heap.size W2 w0) := hw0 ▸ hide (Below.refl _ _).drew
          clear hw0
          refine wpAnyH_ready (rs := [0]) (by kernel_rfl) (by simp) ?_
          refine AllReadyH.cons (o := ({ dst := some 37, op := Op.call { callee := Callee.value (Operand.func 12), args := #[], argTypes := #[] }, type := 4, pos := "law.go:68", after := #[], guard := none } : Oper)) rfl (fun K hK => ?_) AllReadyH.nil
          · go_simp
            go_at_call 12
            refine (told_any _).mono ?_
            rintro e w1 ⟨rfl, hb1⟩
            have b1 := hide (b0.out.trans (hb1.mono b0.out.size))
            refine hK.out _ _ (HS.out _ b1.out) (fun hH1 => ?_)
            clear hK K hb1
            refine wpAnyH_take (i := 1) (oi := ({ dst := some 38, op := Op.move (Operand.tmp 37), type := 4, pos := "law.go:68", after := #[{ on := 0, ground := Ground.data }, { on := 0, ground := Ground.chain }], guard := none } : Oper)) (v := ?_) rfl (by kernel_rfl) (by kernel_rfl) (by kernel_rfl) (fun _ _ _ h => h) (Or.inl ⟨by rfl, ?_⟩) (by assumption) ?_
            rotate_left
            · (intro wz hSw; (try dsimp only at hSw); go_simp; try with_reducible rfl)
            simp only [Act.put, List.setIfInBounds_toArray, List.set_cons_zero, List.set_cons_succ]
            refine wpAnyH_take (i := 2) (oi := ({ dst := some 39, op := Op.load 25 (Operand.tmp 3), type := 25, pos := "law.go:68", after := #[{ on := 1, ground := Ground.guard }], guard := some (1, true) } : Oper)) (v := ?_) rfl (by kernel_rfl) (by kernel_rfl) (by kernel_rfl) (fun _ _ _ h => h) (Or.inl ⟨by rfl, ?_⟩) (by assumption) ?_
            rotate_left
            · (intro wz hSw; (try dsimp only at hSw); go_simp; try with_reducible rfl)
            simp only [Act.put, List.setIfInBounds_toArray, List.set_cons_zero, List.set_cons_succ]
            refine wpAnyH_take (i := 4) (oi := ({ dst := some 41, op := Op.move (Operand.tmp 1), type := 3, pos := "law.go:68", after := #[{ on := 1, ground := Ground.guard }], guard := some (1, true) } : Oper)) (v := ?_) rfl (by kernel_rfl) (by kernel_rfl) (by kernel_rfl) (fun _ _ _ h => h) (Or.inl ⟨by rfl, ?_⟩) (by assumption) ?_
            rotate_left
            · (intro wz hSw; (try dsimp only at hSw); go_simp; try with_reducible rfl)
            simp only [Act.put, List.setIfInBounds_toArray, List.set_cons_zero, List.set_cons_succ]
            refine wpAnyH_take (i := 5) (oi := ({ dst := some 42, op := Op.move (Operand.tmp 2), type := 3, pos := "law.go:68", after := #[{ on := 1, ground := Ground.guard }], guard := some (1, true) } : Oper)) (v := ?_) rfl (by kernel_rfl) (by kernel_rfl) (by kernel_rfl) (fun _ _ _ h => h) (Or.inl ⟨by rfl, ?_⟩) (by assumption) ?_
            rotate_left
            · (intro wz hSw; (try dsimp only at hSw); go_simp; try with_reducible rfl)
            simp only [Act.put, List.setIfInBounds_toArray, List.set_cons_zero, List.set_cons_succ]
            refine wpAnyH_take (i := 7) (oi := ({ dst := some 44, op := Op.load 25 (Operand.tmp 3), type := 25, pos := "law.go:68", after := #[{ on := 1, ground := Ground.guard }], guard := some (1, true) } : Oper)) (v := ?_) rfl (by kernel_rfl) (by kernel_rfl) (by kernel_rfl) (fun _ _ _ h => h) (Or.inl ⟨by rfl, ?_⟩) (by assumption) ?_
            rotate_left
            · (intro wz hSw; (try dsimp only at hSw); go_simp; try with_reducible rfl)
            simp only [Act.put, List.setIfInBounds_toArray, List.set_cons_zero, List.set_cons_succ]
            refine wpAnyH_take (i := 8) (oi := ({ dst := some 45, op := Op.move (Operand.tmp 1), type := 3, pos := "law.go:68", after := #[{ on := 1, ground := Ground.guard }], guard := some (1, true) } : Oper)) (v := ?_) rfl (by kernel_rfl) (by kernel_rfl) (by kernel_rfl) (fun _ _ _ h => h) (Or.inl ⟨by rfl, ?_⟩) (by assumption) ?_
            rotate_left
            · (intro wz hSw; (try dsimp only at hSw); go_simp; try with_reducible rfl)
            simp only [Act.put, List.setIfInBounds_toArray, List.set_cons_zero, List.set_cons_succ]
            refine wpAnyH_take (i := 9) (oi := ({ dst := some 46, op := Op.move (Operand.tmp 2), type := 3, pos := "law.go:68", after := #[{ on := 1, ground := Ground.guard }], guard := some (1, true) } : Oper)) (v := ?_) rfl (by kernel_rfl) (by kernel_rfl) (by kernel_rfl) (fun _ _ _ h => h) (Or.inl ⟨by rfl, ?_⟩) (by assumption) ?_
            rotate_left
            · (intro wz hSw; (try dsimp only at hSw); go_simp; try with_reducible rfl)
            simp only [Act.put, List.setIfInBounds_toArray, List.set_cons_zero, List.set_cons_succ]
            refine wpAnyH_ready (rs := [3]) (by kernel_rfl) (by simp) ?_
            refine AllReadyH.cons (o := ({ dst := some 40, op := Op.call { callee := Callee.value (Operand.func 11), args := #[Operand.tmp 39], argTypes := #[25] }, type := 29, pos := "law.go:68", after := #[{ on := 2, ground := Ground.data }, { on := 1, ground := Ground.chain }, { on := 1, ground := Ground.guard }], guard := some (1, true) } : Oper)) rfl (fun K hK => ?_) AllReadyH.nil
            · go_simp
              go_at_call 11
              refine (to_S a b c d r vs ss _ (HV.out.keep b1.out) (HR.out.keep b1.out) hl1 hl2 HL3.out).mono ?_
              rintro e w2 ⟨v, rfl, hR2, hb2⟩
              obtain ⟨x1, x2, x3, x4, rfl, k1, k2, -, -, -, -⟩ := hR2.rs
              dsimp only at k1 k2 ⊢
              have K2 := hide k1
              have MK2 := hide k2
              clear k1 k2 hR2
              have b2 := hide (b1.out.trans (hb2.mono b1.out.size))
              refine hK.out _ _ (HS.out _ b2.out) (fun hH2 => ?_)
              clear hK K hb2
              refine wpAnyH_ready (rs := [6]) (by kernel_rfl) (by simp) ?_
              refine AllReadyH.cons (o := ({ dst := some 43, op := Op.call { callee := Callee.value (Operand.func 23), args := #[Operand.tmp 40, Operand.tmp 41, Operand.tmp 42], argTypes := #[29, 3, 3] }, type := 4, pos := "law.go:68", after := #[{ on := 3, ground := Ground.data }, { on := 4, ground := Ground.data }, { on := 5, ground := Ground.data }, { on := 3, ground := Ground.chain }, { on := 1, ground := Ground.guard }], guard := some (1, true) } : Oper)) rfl (fun K hK => ?_) AllReadyH.nil
              · go_simp
                go_at_call 23
                refine (right_S x1 x3 x2 x4 r vs ss regs sites _ K2.out MK2.out hl1 HL3.out).mono ?_
                rintro e w3 ⟨rfl, hb3⟩
                have b3 := hide (b2.out.trans (hb3.mono b2.out.size))
                refine hK.out _ _ (HS.out _ b3.out) (fun hH3 => ?_)
                clear hK K hb3
                refine wpAnyH_ready (rs := [10]) (by kernel_rfl) (by simp) ?_
                refine AllReadyH.cons (o := ({ dst := some 47, op := Op.call { callee := Callee.value (Operand.func 24), args := #[Operand.tmp 44, Operand.tmp 45, Operand.tmp 46], argTypes := #[25, 3, 3] }, type := 4, pos := "law.go:68", after := #[{ on := 7, ground := Ground.data }, { on := 8, ground := Ground.data }, { on := 9, ground := Ground.data }, { on := 6, ground := Ground.chain }, { on := 1, ground := Ground.guard }], guard := some (1, true) } : Oper)) rfl (fun K hK => ?_) AllReadyH.nil
                · go_simp
                  go_at_call 24
                  refine (rightr_S a b c d r vs ss regs sites _ (HV.out.keep b3.out) (HR.out.keep b3.out) hl1 HL3.out).mono ?_
                  rintro e w4 ⟨rfl, hb4⟩
                  have b4 := hide (b3.out.trans (hb4.mono b3.out.size))
                  refine hK.out _ _ (HS.out _ b4.out) (fun hH4 => ?_)
                  clear hK K hb4
                  refine wpAnyH_take (i := 11) (oi := ({ dst := some 48, op := Op.binOp BinOp.eql 4 (Operand.tmp 43) (Operand.tmp 47) 4, type := 4, pos := "law.go:68", after := #[{ on := 6, ground := Ground.data }, { on := 10, ground := Ground.data }, { on := 1, ground := Ground.guard }], guard := some (1, true) } : Oper)) (v := ?_) rfl (by kernel_rfl) (by kernel_rfl) (by kernel_rfl) (fun _ _ _ h => h) (Or.inl ⟨by rfl, ?_⟩) (by assumption) ?_
                  rotate_left
                  · (intro wz hSw; (try dsimp only at hSw); go_simp; try with_reducible rfl)
                  simp only [Act.put, List.setIfInBounds_toArray, List.set_cons_zero, List.set_cons_succ]
                  refine wpAnyH_take (i := 12) (oi := ({ dst := some 49, op := Op.pick (Operand.tmp 38) (Operand.tmp 48) (Operand.const (Value.bool false)), type := 4, pos := "law.go:68", after := #[{ on := 1, ground := Ground.data }, { on := 11, ground := Ground.data }], guard := none } : Oper)) (v := ?_) rfl (by kernel_rfl) (by kernel_rfl) (by kernel_rfl) (fun _ _ _ h => h) (Or.inl ⟨by rfl, ?_⟩) (by assumption) ?_
                  rotate_left
                  · (intro wz hSw; (try dsimp only at hSw); go_simp; try with_reducible rfl)
                  simp only [Act.put, List.setIfInBounds_toArray, List.set_cons_zero, List.set_cons_succ]
                  refine wpAnyH_take (i := 13) (oi := ({ dst := some 50, op := Op.move (Operand.tmp 49), type := 4, pos := "law.go:68", after := #[{ on := 12, ground := Ground.data }, { on := 10, ground := Ground.chain }], guard := none } : Oper)) (v := ?_) rfl (by kernel_rfl) (by kernel_rfl) (by kernel_rfl) (fun _ _ _ h => h) (Or.inl ⟨by rfl, ?_⟩) (by assumption) ?_
                  rotate_left
                  · (intro wz hSw; (try dsimp only at hSw); go_simp; try with_reducible rfl)
                  simp only [Act.put, List.setIfInBounds_toArray, List.set_cons_zero, List.set_cons_succ]
                  refine wpAnyH_take (i := 14) (oi := ({ dst := some 51, op := Op.load 25 (Operand.tmp 8), type := 25, pos := "law.go:68", after := #[{ on := 13, ground := Ground.guard }], guard := some (13, true) } : Oper)) (v := ?_) rfl (by kernel_rfl) (by kernel_rfl) (by kernel_rfl) (fun _ _ _ h => h) (Or.inl ⟨by rfl, ?_⟩) (by assumption) ?_
                  rotate_left
                  · (intro wz hSw; (try dsimp only at hSw); go_simp; try with_reducible rfl)
                  simp only [Act.put, List.setIfInBounds_toArray, List.set_cons_zero, List.set_cons_succ]
                  refine wpAnyH_take (i := 16) (oi := ({ dst := some 53, op := Op.fieldAddr 25 (Operand.tmp 8) 1, type := 0, pos := "law.go:68", after := #[{ on := 13, ground := Ground.guard }], guard := some (13, true) } : Oper)) (v := ?_) rfl (by kernel_rfl) (by kernel_rfl) (by kernel_rfl) (fun _ _ _ h => h) (Or.inl ⟨by rfl, ?_⟩) (by assumption) ?_
                  rotate_left
                  · (intro wz hSw; (try dsimp only at hSw); go_simp; try with_reducible rfl)
                  simp only [Act.put, List.setIfInBounds_toArray, List.set_cons_zero, List.set_cons_succ]
                  refine wpAnyH_take (i := 17) (oi := ({ dst := some 54, op := Op.load 22 (Operand.tmp 53), type := 22, pos := "law.go:68", after := #[{ on := 16, ground := Ground.data }, { on := 13, ground := Ground.guard }], guard := some (13, true) } : Oper)) (v := ?_) rfl (by kernel_rfl) (by kernel_rfl) (by kernel_rfl) (fun _ _ _ h => h) (Or.inl ⟨by rfl, ?_⟩) (by assumption) ?_
                  rotate_left
                  · (intro wz hSw; (try dsimp only at hSw); go_simp; try with_reducible rfl)
                  simp only [Act.put, List.setIfInBounds_toArray, List.set_cons_zero, List.set_cons_succ]
                  refine wpAnyH_take (i := 18) (oi := ({ dst := some 55, op := Op.call { callee := Callee.builtin Builtin.len, args := #[Operand.tmp 54], argTypes := #[22] }, type := 3, pos := "law.go:68", after := #[{ on := 17, ground := Ground.data }, { on := 13, ground := Ground.guard }], guard := some (13, true) } : Oper)) (v := ?_) rfl (by kernel_rfl) (by kernel_rfl) (by kernel_rfl) (fun _ _ _ h => h) (Or.inl ⟨by rfl, ?_⟩) (by assumption) ?_
                  rotate_left
                  · (intro wz hSw; (try dsimp only at hSw); go_simp; try with_reducible rfl)
                  simp only [Act.put, List.setIfInBounds_toArray, List.set_cons_zero, List.set_cons_succ]
                  refine wpAnyH_ready (rs := [15]) (by kernel_rfl) (by simp) ?_
                  refine AllReadyH.cons (o := ({ dst := some 52, op := Op.call { callee := Callee.value (Operand.func 11), args := #[Operand.tmp 51], argTypes := #[25] }, type := 29, pos := "law.go:68", after := #[{ on := 14, ground := Ground.data }, { on := 13, ground := Ground.chain }, { on := 13, ground := Ground.guard }], guard := some (13, true) } : Oper)) rfl (fun K hK => ?_) AllReadyH.nil
                  · go_simp
                    go_at_call 11
                    refine (to_S a8 b8 c8 d8 sf.r sf.vs sf.ss _ (HV8.out.keep b4.out) (HR8.out.keep b4.out) hl8 hl9 HL8.out).mono ?_
                    rintro e w5 ⟨v, rfl, hR5, hb5⟩
                    obtain ⟨y1, y2, y3, y4, rfl, k1, k2, -, -, -, -⟩ := hR5.rs
                    dsimp only at k1 k2 ⊢
                    have J5 := hide k1
                    have MJ5 := hide k2
                    clear k1 k2 hR5
                    have b5 := hide (b4.out.trans (hb5.mono b4.out.size))
                    refine hK.out _ _ (HS.out _ b5.out) (fun hH5 => ?_)
                    clear hK K hb5
                    refine wpAnyH_ready (rs := [19]) (by kernel_rfl) (by simp) ?_
                    refine AllReadyH.cons (o := ({ dst := some 56, op := Op.call { callee := Callee.value (Operand.func 23), args := #[Operand.tmp 52, Operand.tmp 55, Operand.const (Value.int IntKind.i64 70)], argTypes := #[29, 3, 3] }, type := 4, pos := "law.go:68", after := #[{ on := 15, ground := Ground.data }, { on := 18, ground := Ground.data }, { on := 15, ground := Ground.chain }, { on := 13, ground := Ground.guard }], guard := some (13, true) } : Oper)) rfl (fun K hK => ?_) AllReadyH.nil
                    · go_simp
                      go_at_call 23
                      refine (C8.out _ y1 y3 y2 y4 J5.out MJ5.out).mono ?_
                      rintro e w6 ⟨rfl, hb6⟩
                      have b6 := hide (b5.out.trans (hb6.mono b5.out.size))
                      refine hK.out _ _ (HS.out _ b6.out) (fun hH6 => ?_)
                      clear hK K hb6
                      refine wpAnyH_take (i := 20) (oi := ({ dst := some 57, op := Op.pick (Operand.tmp 50) (Operand.tmp 56) (Operand.const (Value.bool false)), type := 4, pos := "law.go:68", after := #[{ on := 13, ground := Ground.data }, { on := 19, ground := Ground.data }], guard := none } : Oper)) (v := ?_) rfl (by kernel_rfl) (by kernel_rfl) (by kernel_rfl) (fun _ _ _ h => h) (Or.inl ⟨by rfl, ?_⟩) (by assumption) ?_
                      rotate_left
                      · (intro wz hSw; (try dsimp only at hSw); go_simp; try with_reducible rfl)
                      simp only [Act.put, List.setIfInBounds_toArray, List.set_cons_zero, List.set_cons_succ]
                      refine wpAnyH_take (i := 21) (oi := ({ dst := some 6, op := Op.assign (Operand.tmp 57), type := 4, pos := "law.go:68", after := #[{ on := 20, ground := Ground.data }, { on := 19, ground := Ground.chain }, { on := 0, ground := Ground.phase }, { on := 1, ground := Ground.phase }, { on := 2, ground := Ground.phase }, { on := 3, ground := Ground.phase }, { on := 4, ground := Ground.phase }, { on := 5, ground := Ground.phase }, { on := 6, ground := Ground.phase }, { on := 7, ground := Ground.phase }, { on := 8, ground := Ground.phase }, { on := 9, ground := Ground.phase }, { on := 10, ground := Ground.phase }, { on := 11, ground := Ground.phase }, { on := 12, ground := Ground.phase }, { on := 13, ground := Ground.phase }, { on := 14, ground := Ground.phase }, { on := 15, ground := Ground.phase }, { on := 16, ground := Ground.phase }, { on := 17, ground := Ground.phase }, { on := 18, ground := Ground.phase }, { on := 19, ground := Ground.phase }, { on := 20, ground := Ground.phase }], guard := none } : Oper)) (v := ?_) rfl (by kernel_rfl) (by kernel_rfl) (by kernel_rfl) (fun _ _ _ h => h) (Or.inl ⟨by rfl, ?_⟩) (by assumption) ?_
                      rotate_left
                      · (intro wz hSw; (try dsimp only at hSw); go_simp; try with_reducible rfl)
                      simp only [Act.put, List.setIfInBounds_toArray, List.set_cons_zero, List.set_cons_succ]
                      refine wpAnyH_done (by kernel_rfl) ?_ _
                      go_wp2
                      go_ret
                      exact ⟨by simp, BW.out.trans (b6.out.mono BW.out.size)⟩
    · have j40 : (ss.length : Int) > 40 := by omega
      clear cF
      go_enter Try.func4, Try.ntmps4
      go_wp2_with (go_at_call 12; refine (told_any _).mono ?_; rintro e wB ⟨rfl, hB⟩; replace hB := hide hB)
      go_ret
      exact ⟨by simp, ((Below.refl _ _).alloc (Nat.le_refl _) _).trans (hB.out.mono (by simp))⟩
  · have i40 : (vs.length : Int) > 40 := by omega
    clear cF
    go_enter Try.func4, Try.ntmps4
    go_wp2_with (go_at_call 12; refine (told_any _).mono ?_; rintro e wB ⟨rfl, hB⟩; replace hB := hide hB)
    go_ret
    exact ⟨by simp, ((Below.refl _ _).alloc (Nat.le_refl _) _).trans (hB.out.mono (by simp))⟩
end Go.Proofs.Ytmhicllhjiglkaa
namespace Go.Proofs.Ytmhicllhjiglkaa
open Go.RowKit
theorem wpList_appY {ops : Array Oper} {rest : List Oper} {o : Oper} {a : Act} {Q : Exit → Act → World → Prop} (w0 w1 : World) (hgd : o.guard = none) (s x : Operand)
    (ho : o.op = .call { callee := .builtin .append, args := #[s, x], argTypes := #[38, 38] })
    (v : Value) (ps : List Int) (hS : St w0 w1 v ps) (hs : a.eval s = v) (az : Option Addr) (c : Nat) (zs : List Int) (hx : a.eval x = .slice az zs.length c) (hz : Ri w1 az zs) (hn : az = none → c = 0 ∧ zs = []) (hl : ps.length + zs.length ≤ 1000000)
    (h : ∀ a' c' w', St w0 w' (.slice a' (ps.length + zs.length) c') (ps ++ zs) → w1.grownBy w' v.ownBlock → wpList Try.prog ops Q rest (a.put o.dst (.slice a' (ps.length + zs.length) c')) w') : wpList Try.prog ops Q (o :: rest) a w1 :=
  wpList_plain hgd fun _ hK => wp_appY w0 w1 s x ho v ps hS hs az c zs hx hz hn hl fun a' c' w' h2 h3 => hK _ _ (h a' c' w' h2 h3)
/-- Values more -/
theorem wpList_appVs {ops : Array Oper} {rest : List Oper} {o : Oper} {a : Act} {Q : Exit → Act → World → Prop} (w1 : World) (B : Nat) (t T : TypeId) (ht : Try.prog.underlying t = some (.slice T)) (hI : (Try.prog.info? T).map (fun i => (i.zero, i.size, i.bytes)) = some (some zV, 6, 48)) (hgd : o.guard = none) (s x : Operand)
    (ho : o.op = .call { callee := .builtin .append, args := #[s, x], argTypes := #[t, t] })
    (v : Value) (vs : List R) (ys : List R) (ad : Addr) (c : Nat) (hO : OwV w1 B T v vs) (hY : RV w1 (some ad) ys) (hs : a.eval s = v) (hx : a.eval x = .slice (some ad) ys.length c) (hl : vs.length + ys.length ≤ 1000000) (hB : B ≤ w1.heap.size)
    (h : ∀ a' c' w', OwV w' B T (.slice a' (vs.length + ys.length) c') (vs ++ ys) → w1.grownBy w' v.ownBlock → wpList Try.prog ops Q rest (a.put o.dst (.slice a' (vs.length + ys.length) c')) w') : wpList Try.prog ops Q (o :: rest) a w1 := by
  obtain ⟨i0, hi, hz0, hz1, hz2⟩ := info_parts hI
  refine wpList_append_own _ hgd s x t ho B T i0 zV 6 48 ht hi hz0 hz1 hz2 rfl (by decide) v vs.length (VR vs) hs hO ad ys.length c (VR ys) hx (VR_len ys) ?_ (VR_one ys) ?_ ?_ ?_ ?_
  · intro j u hj
    have hjl : j < ys.length * 6 := by
      rcases Nat.lt_or_ge j (VR ys).length with t | t
      · rw [VR_len] at t; exact t
      · rw [List.getElem?_eq_none t] at hj; cases hj
    have hm : j / 6 < ys.length := by omega
    obtain ⟨b, of, e, h6⟩ := hY (j / 6) (ys[j / 6]) (by simp [hm])
    obtain rfl := Option.some.inj e
    rw [addr_none]
    have hx2 := VR_at (ys[j / 6]) (j % 6) (Nat.mod_lt _ (by omega)) ys (j / 6) (by simp [hm])
    have ej : j / 6 * 6 + j % 6 = j := by omega
    rw [ej, hj] at hx2
    have ea : of + j = of + j / 6 * 6 + j % 6 := by omega
    rw [ea]
    have h7 : j % 6 = 0 ∨ j % 6 = 1 ∨ j % 6 = 2 ∨ j % 6 = 3 ∨ j % 6 = 4 ∨ j % 6 = 5 := by omega
    rcases h7 with h7 | h7 | h7 | h7 | h7 | h7 <;> rw [h7] at hx2 ⊢ <;> simp at hx2 <;> subst hx2
    · exact h6.c0
    · exact h6.c1
    · exact h6.c2
    · exact h6.c3
    · exact h6.c4
    · exact h6.c5
  · unfold maxLen; omega
  · omega
  · exact hB
  · intro v' w' hown hgrow _
    have hT : OwV w' B T v' (vs ++ ys) := by
      unfold OwV
      rw [VR_append]
      simpa using hown
    obtain ⟨a', c', rfl, _⟩ := hT.slice
    simp only [List.length_append] at hT ⊢
    exact h a' c' w' hT hgrow
theorem OwV.lit0 (w : World) (T : TypeId) : OwV (w.alloc (.cells #[] T)) w.heap.size T (.slice (some ⟨w.heap.size, 0, none⟩) 0 0) [] := by
  refine ⟨rfl, Or.inr ⟨w.heap.size, 0, #[], rfl, Nat.le_refl _, ?_, Nat.le_refl _, by unfold maxLen; omega, rfl, rfl⟩⟩
  show (w.heap.push _)[w.heap.size]? = _
  simp
set_option maxRecDepth 100000 in
set_option maxHeartbeats 4000000 in
theorem cloneI (l : List Int) (a : Option Addr) (c : Nat) (w : World) (hr : Ri w a l) (hc : l.length ≤ c) (hn : a = none → c = 0) (hl : l.length ≤ 100000) :
    Calls Try.prog 58 #[.slice a l.length c] w fun e w' => ∃ v, e = .returned v ∧ St w w' v l := by
  have HR := hide (hr.keep' ((Below.refl _ _).alloc (Nat.le_refl _) (.cells #[] 3)))
  clear hr
  cases a with
  | none =>
    obtain rfl := hn rfl
    obtain rfl : l = [] := List.eq_nil_of_length_eq_zero (by omega)
    have hnil : ∀ W, (binOp .eql 38 (.slice none 0 0) (.slice none 0 0)).run Try.prog W = .ok (.bool true) W := fun W => Lib.run_eql_slice_nil_nil W _ _ Try.underlying38
    go_enter Try.func58, Try.ntmps58
    go_wp2
    go_ret
    exact ⟨_, rfl, St.start w⟩
  | some ad =>
    have hnil : ∀ W, (binOp .eql 38 (.slice (some ad) l.length c) (.slice none 0 0)).run Try.prog W = .ok (.bool false) W := fun W => Lib.run_eql_slice_some_nil W _ _ _ Try.underlying38
    go_enter Try.func58, Try.ntmps58
    go_wp2_with (at_builtin; refine wpList_appY w (w.alloc (.cells #[] 3)) rfl (.tmp 5) (.tmp 6) rfl _ [] (St.lit0 w) rfl (some ad) c l rfl HR.out (fun e => by cases e) (by simp; omega) ?_; intro a2 c2 w2 hS hg; simp only [List.length_nil, Nat.zero_add, List.nil_append] at hS ⊢; replace hS := hide hS; clear hg)
    go_ret
    exact ⟨_, rfl, hS.out⟩
set_option maxRecDepth 100000 in
set_option maxHeartbeats 4000000 in
theorem cloneV (vs : List R) (a : Option Addr) (c : Nat) (w : World) (hr : RV w a vs) (hc : vs.length ≤ c) (hn : a = none → c = 0) (hl : vs.length ≤ 100000) :
    Calls Try.prog 57 #[.slice a vs.length c] w fun e w' => ∃ v, e = .returned v ∧ OwV w' w.heap.size 53 v vs ∧ Below w.heap.size w w' := by
  have HR := hide (hr.keep ((Below.refl _ _).alloc (Nat.le_refl _) (.cells #[] 53)))
  clear hr
  cases a with
  | none =>
    obtain rfl := hn rfl
    obtain rfl : vs = [] := List.eq_nil_of_length_eq_zero (by omega)
    have hnil : ∀ W, (binOp .eql 27 (.slice none 0 0) (.slice none 0 0)).run Try.prog W = .ok (.bool true) W := fun W => Lib.run_eql_slice_nil_nil W _ _ Try.underlying27
    go_enter Try.func57, Try.ntmps57
    go_wp2
    go_ret
    exact ⟨_, rfl, OwV.nil _ _ _, Below.refl _ _⟩
  | some ad =>
    have hnil : ∀ W, (binOp .eql 27 (.slice (some ad) vs.length c) (.slice none 0 0)).run Try.prog W = .ok (.bool false) W := fun W => Lib.run_eql_slice_some_nil W _ _ _ Try.underlying27
    have hO := hide (OwV.lit0 w 53)
    go_enter Try.func57, Try.ntmps57
    go_wp2_with (at_builtin; refine wpList_appVs (w.alloc (.cells #[] 53)) w.heap.size 27 53 Try.underlying27 info53p rfl (.tmp 5) (.tmp 6) rfl _ [] vs ad c hO.out HR.out rfl rfl (by simp; omega) (by simp) ?_; intro a2 c2 w2 hS hg; simp only [List.length_nil, Nat.zero_add, List.nil_append] at hS ⊢; replace hS := hide hS; replace hg := hide hg)
    go_ret
    exact ⟨_, rfl, hS.out, ((Below.refl _ _).alloc (Nat.le_refl _) _).grown hg.out (by simp) (fun k hk => (hO.out.lt k hk).1)⟩
end Go.Proofs.Ytmhicllhjiglkaa
