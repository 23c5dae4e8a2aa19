import Derived.Test.YtmhicllhjiglkaaG06
import Derived.Test.YtmhicllhjiglkaaG03
import Derived.Test.YtmhicllhjiglkaaG07
import Derived.Deep.RegionHeld3
import Derived.Test.YtmhicllhjiglkaaG01
import Derived.Test.YtmhicllhjiglkaaG04
import Derived.Test.YtmhicllhjiglkaaG02
namespace Go.Proofs.Ytmhicllhjiglkaa
open Go.RowKit
theorem Br.b6 {w : World} {q : Nat} {x : R} (h : Br w q x.s x.k x.n x.lo x.hi x.p) : B6 w q 0 x := ⟨h.c0, h.c1, h.c2, h.c3, h.c4, h.c5⟩
theorem Br.b6v {w : World} {q : Nat} {u : V} (h : Br w q (up u.s) u.k u.n u.lo u.hi (up u.p)) : B6 w q 0 u.raw := ⟨h.c0, h.c1, h.c2, h.c3, h.c4, h.c5⟩
theorem lo_r {w : World} {B q : Nat} {T : TypeId} {r : Bool} {vs : List R} {ss : List (List Int)} {va sa : Value} {es : List Value} (hr : r = true) (h : Lo w B q T ⟨r, vs, ss⟩ va sa es) : Lo w B q T ⟨true, vs, ss⟩ va sa es := by subst hr; exact h
/-- a register's Value at the beginning -/
def argV (args : List R) (k : Nat) : R := (args[k]?).getD (ofV 0).raw
/-- how a function begins -/
def beginS (n : Nat) (args : List R) (first : Int) : S := ⟨true, (List.range n).map (argV args), (List.range n).map (fun (r : Nat) => [first + (r : Int)])⟩
theorem beginS_succ (k : Nat) (args : List R) (first : Int) : beginS (k + 1) args first = ⟨true, (beginS k args first).vs ++ [argV args k], (beginS k args first).ss ++ [[first + (k : Int)]]⟩ := by
  unfold beginS
  rw [List.range_succ, List.map_append, List.map_append]
  rfl
theorem beginS_vl (k : Nat) (args : List R) (first : Int) : (beginS k args first).vs.length = k := by simp [beginS]
theorem beginS_sl (k : Nat) (args : List R) (first : Int) : (beginS k args first).ss.length = k := by simp [beginS]
set_option maxRecDepth 100000 in
set_option maxHeartbeats 8000000 in
theorem begin_S (n : Int) (a : Option Addr) (c : Nat) (args : List R) (first : Int) (w : World) (hv : RV w a args) (hn : n ≤ 20) (hf0 : 0 ≤ first) (hf : first ≤ 4000) :
    Calls Try.prog 27 #[.int .i64 n, .slice a args.length c, .int .i64 first] w fun e w' => ∃ v, e = .returned v ∧ Rn w' w.heap.size v (beginS n.toNat args first) ∧ Below w.heap.size w w' := by
  have HV := hide hv
  clear hv
  go_enter Try.func27, Try.ntmps27
  go_upto_region 2 with fail
  go_name_world W hW
  obtain ⟨q1, h1⟩ : ∃ z9, z9 = w.heap.size + 1 := ⟨_, rfl⟩
  rw [← h1]
  obtain ⟨q0, h0⟩ : ∃ z9, z9 = w.heap.size := ⟨_, rfl⟩
  rw [← h0]
  have FQ : Hid (q0 < q1 ∧ w.heap.size ≤ q1 ∧ w.heap.size ≤ q0) := by unfold Hid; omega
  have H1 : Hid ((Bs W q0 false (.slice none 0 0) (.slice none 0 0) ∧ Fs W q0) ∧ Lo W (q1 + 1) q1 53 (beginS 0 args first) (.slice none 0 0) (.slice none 0 0) [] ∧ Below w.heap.size w W) := by
    unfold Hid
    rw [h1, h0]
    obtain ⟨B0, F0, B1, F1, u⟩ := boxes2 w _ _ _ _ _ _ _ _ W hW
    exact ⟨⟨B0, F0⟩, Lo.start _ B1 F1 (Nat.lt_succ_self _), u⟩
  clear hW h1 h0
  go_wp2_with fail
  go_loopw [12] (fun sk wr => ∃ (k : Nat) (va sa : Value) (es : List Value), sk = .int .i64 k ∧ k ≤ n.toNat ∧ Hid ((Bs wr q0 false (.slice none 0 0) (.slice none 0 0) ∧ Fs wr q0) ∧ Lo wr (q1 + 1) q1 53 (beginS k args first) va sa es ∧ Below w.heap.size w wr)) (fun sk _ => n.toNat - (intOf sk).toNat)
  case atStart => exact ⟨0, _, _, _, rfl, Nat.zero_le _, H1.out⟩
  case round =>
    obtain ⟨k, va, sa, es, rfl, hk, h4⟩ := hrel
    clear H1
    by_cases hkn : (k : Int) < n
    · have hk20 : (k : Int) ≤ 20 := by omega
      have cO := fun w => of_V 0 w
      have HB : Hid (beginS (k + 1) args first = ⟨true, (beginS k args first).vs ++ [argV args k], (beginS k args first).ss ++ [[first + k]]⟩) := beginS_succ k args first
      have hsl : (beginS k args first).vs.length ≤ 1000000 ∧ (beginS k args first).ss.length ≤ 1000000 := by rw [beginS_vl, beginS_sl]; omega
      go_upto_if 19 with (go_at_call 41; refine (cO _).mono ?_; rintro e wA ⟨rfl, hA⟩)
      go_name_world W6 hW6
      obtain ⟨nq, hnq⟩ : ∃ z9, z9 = wA.heap.size := ⟨_, rfl⟩
      rw [← hnq]
      have H6 : Hid (Br W6 nq (up (ofV 0).s) (ofV 0).k (ofV 0).n (ofV 0).lo (ofV 0).hi (up (ofV 0).p) ∧ Fz W6 nq ∧ Below wA.heap.size wA W6) := by
        unfold Hid
        rw [← hW6, hnq]
        exact ⟨Br.new _ _ _ _ _ _ _ _, Fz.new _ _ _ _ _ _ _ _, (Below.refl _ _).alloc (Nat.le_refl _) _⟩
      have HN := hide hnq
      clear hW6 hnq cO
      have h5 : Hid ((Bs W6 q0 false (.slice none 0 0) (.slice none 0 0) ∧ Fs W6 q0) ∧ Lo W6 (q1 + 1) q1 53 (beginS k args first) va sa es ∧ Below w.heap.size w W6) := by
        have t1 := h4.out.1.1.keep hA
        have t2 := h4.out.2.2.trans (hA.mono h4.out.2.2.size)
        exact ⟨⟨t1.keep H6.out.2.2, (h4.out.1.2.of (hA.block q0 h4.out.1.1.lt)).of (H6.out.2.2.block q0 t1.lt)⟩, (h4.out.2.1.of hA).of H6.out.2.2, t2.trans (H6.out.2.2.mono t2.size)⟩
      have hq9 : Hid (w.heap.size ≤ nq ∧ q1 < nq ∧ q0 < nq) := by
        have := (h4.out.2.1.of hA).bx.lt
        have := h4.out.2.2.size
        have := hA.size
        have := HN.out
        have := (h4.out.1.1.keep hA).lt
        unfold Hid
        omega
      have HL6 := hide (h4.out.2.1.of hA)
      have HA1 := hide (h4.out.1.1.keep hA)
      have HA2 := hide (h4.out.1.2.of (hA.block q0 h4.out.1.1.lt))
      clear h4 hA
      go_cut [] (fun wx => Hid (B6 wx nq 0 (argV args k) ∧ ((Bs wx q0 false (.slice none 0 0) (.slice none 0 0) ∧ Fs wx q0) ∧ Lo wx (q1 + 1) q1 53 (beginS k args first) va sa es ∧ Below w.heap.size w wx)))
      case first =>
        by_cases hka : k < args.length
        · have hka2 : (k : Int) < args.length := by omega
          obtain ⟨b1, o1, x, hX, rfl, hx6⟩ := HV.out.at hka
          have HX : Hid (argV args k = x) := by unfold Hid argV; rw [hX]; rfl
          have hx7 := hx6.keep h5.out.2.2
          have d0 := hx7.c0
          have d1 := hx7.c1
          have d2 := hx7.c2
          have d3 := hx7.c3
          have d4 := hx7.c4
          have d5 := hx7.c5
          have e0 := H6.out.1.c0
          have e1 := H6.out.1.c1
          have e2 := H6.out.1.c2
          have e3 := H6.out.1.c3
          have e4 := H6.out.1.c4
          have e5 := H6.out.1.c5
          have f0 := H6.out.2.1.f0
          have f1 := H6.out.2.1.f1
          have f2 := H6.out.2.1.f2
          have f3 := H6.out.2.1.f3
          have f4 := H6.out.2.1.f4
          have f5 := H6.out.2.1.f5
          clear hX hx6 hx7
          go_wp2_with fail
          go_meet
          case rel =>
            have bq : Below wA.heap.size wA (st6 W6 nq (.int .i64 x.s) (.bool x.k) (.int .i64 x.n) (.int .i64 x.lo) (.int .i64 x.hi) (.int .i64 x.p)) := st6_below H6.out.2.2 nq (Nat.le_of_eq HN.out.symm) _ _ _ _ _ _
            have t := H6.out.1.wrote x.s x.k x.n x.lo x.hi x.p
            have t2 := st6_below h5.out.2.2 nq hq9.out.1 (.int .i64 x.s) (.bool x.k) (.int .i64 x.n) (.int .i64 x.lo) (.int .i64 x.hi) (.int .i64 x.p)
            rw [HX.out]
            exact ⟨Br.b6 t, ⟨HA1.out.keep bq, HA2.out.of (bq.block q0 HA1.out.lt)⟩, HL6.out.of bq, t2⟩
        · have hka2 : ¬ (k : Int) < args.length := by omega
          have HX : Hid (argV args k = (ofV 0).raw) := by unfold Hid argV; rw [List.getElem?_eq_none (by omega)]; rfl
          go_wp2_with fail
          go_meet
          case rel =>
            have t := H6.out.1
            rw [HX.out]
            exact ⟨Br.b6v t, h5.out⟩
      case rest =>
        clear h5 H6 HL6 HA1 HA2 hq9 HN
        have h6 := hcut
        clear hcut
        generalize argV args k = x at *
        obtain ⟨pv, hpv⟩ : ∃ z9, z9 = beginS k args first := ⟨_, rfl⟩
        have HPR : Hid (pv.r = true) := hide (by rw [hpv]; rfl)
        rw [← hpv] at h6 HB hsl
        clear hpv
        obtain ⟨hs1, hs2⟩ := hsl
        go_upto_region 8 with fail
        go_name_world W8 hW8
        rw [hW8] at h6
        clear hW8
        have e1 := h6.out.2.2.1.bx.c1
        have d0 := h6.out.1.c0
        have d1 := h6.out.1.c1
        have d2 := h6.out.1.c2
        have d3 := h6.out.1.c3
        have d4 := h6.out.1.c4
        have d5 := h6.out.1.c5
        have LA := hide (h6.out.2.2.1.of ((Below.refl _ _).alloc (Nat.le_refl _) (.cells #[.int .i64 x.s, .bool x.k, .int .i64 x.n, .int .i64 x.lo, .int .i64 x.hi, .int .i64 x.p] 53)))
        have bA : Hid (Below q1 W8 (W8.alloc (.cells #[.int .i64 x.s, .bool x.k, .int .i64 x.n, .int .i64 x.lo, .int .i64 x.hi, .int .i64 x.p] 53))) := (Below.refl _ _).alloc (Nat.le_of_lt h6.out.2.2.1.bx.lt) _
        go_upto_region 9 with (at_builtin; refine wpList_appV W8 (q1 + 1) 27 53 Try.underlying27 info53p rfl (.tmp 25) (.tmp 27) rfl _ pv.vs x h6.out.2.2.1.ov rfl rfl hs1 (Nat.succ_le_of_lt h6.out.2.2.1.bx.lt) ?_; intro a2 c2 w2 hO hg; have zb := LA.out.boxV hg; have z0 := zb.1.c0; have z1 := zb.1.c1; have z2 := zb.1.c2; have y0 := zb.2.f0; have y1 := zb.2.f1; have y2 := zb.2.f2; replace hO := hide hO; replace hg := hide hg; clear zb e1)
        go_name_world W9 hW9
        have L9 : Hid (Lo W9 (q1 + 1) q1 53 ⟨pv.r, pv.vs ++ [x], pv.ss⟩ (.slice a2 (pv.vs.length + 1) c2) sa es) := by unfold Hid; rw [← hW9]; exact LA.out.appV (by decide) (by decide) hO.out hg.out
        have b9 : Hid (Below q1 W8 W9) := by unfold Hid; rw [← hW9]; exact (LA.out.belV bA.out hg.out).setCell (p := ⟨q1, 1, none⟩) (Nat.le_refl _) _
        have BW := hide (h6.out.2.2.2.trans (b9.out.mono FQ.out.2.1))
        have KW := hide (And.intro (h6.out.2.1.1.of (b9.out.block q0 FQ.out.1)) (h6.out.2.1.2.of (b9.out.block q0 FQ.out.1)))
        clear hW9 LA bA hO hg z0 z1 z2 y0 y1 y2 d0 d1 d2 d3 d4 d5 h6 b9
        have e1 := L9.out.bx.c2
        have hw : wrap64 (first + (k : Int)) = first + k := by unfold wrap64; omega
        have HI := hide ((St.lit1 W9 (first + k)).owi (Nat.succ_le_of_lt L9.out.bx.lt))
        have u1 : Below W9.heap.size W9 (W9.alloc (.cells #[.int .i64 (first + k)] 3)) := (Below.refl _ _).alloc (Nat.le_refl _) _
        have L10 := hide (L9.out.of u1)
        have u2 : Below (W9.alloc (.cells #[.int .i64 (first + k)] 3)).heap.size (W9.alloc (.cells #[.int .i64 (first + k)] 3)) ((W9.alloc (.cells #[.int .i64 (first + k)] 3)).alloc (.cells #[.slice (some ⟨W9.heap.size, 0, none⟩) 1 1] 38)) := (Below.refl _ _).alloc (Nat.le_refl _) _
        have L11 := hide (L10.out.of u2)
        have HI2 := hide (HI.out.keep u2)
        have b11 : Hid (Below q1 W9 ((W9.alloc (.cells #[.int .i64 (first + k)] 3)).alloc (.cells #[.slice (some ⟨W9.heap.size, 0, none⟩) 1 1] 38))) := (u1.mono (Nat.le_of_lt L9.out.bx.lt)).trans (u2.mono (Nat.le_of_lt L10.out.bx.lt))
        have hel : es.length ≤ 1000000 := by have := L9.out.inn.1; dsimp only at this; omega
        have HY : Hid (((W9.alloc (.cells #[.int .i64 (first + k)] 3)).alloc (.cells #[.slice (some ⟨W9.heap.size, 0, none⟩) 1 1] 38)).cell? ⟨W9.heap.size + 1, 0, none⟩ = some (.slice (some ⟨W9.heap.size, 0, none⟩) 1 1)) := hide (by have t := (C1.new (W9.alloc (.cells #[.int .i64 (first + k)] 3)) (.slice (some ⟨W9.heap.size, 0, none⟩) 1 1) 38).c; rw [show (W9.alloc (.cells #[.int .i64 (first + k)] 3)).heap.size = W9.heap.size + 1 by simp] at t; exact t)
        clear u1 u2
        go_wp2_with (at_builtin; refine wpList_appR' ((W9.alloc (.cells #[.int .i64 (first + k)] 3)).alloc (.cells #[.slice (some ⟨W9.heap.size, 0, none⟩) 1 1] 38)) (q1 + 1) rfl (.tmp 31) (.tmp 36) rfl _ es (.slice (some ⟨W9.heap.size, 0, none⟩) 1 1) (W9.heap.size + 1) rfl L11.out.os HY.out rfl rfl hel (Nat.succ_le_of_lt L11.out.bx.lt) ?_; intro a3 c3 w3 hO hg; have zb := L11.out.boxR hg; have z0 := zb.1.c0; have z1 := zb.1.c1; have z2 := zb.1.c2; have y0 := zb.2.f0; have y1 := zb.2.f1; have y2 := zb.2.f2; replace hO := hide hO; replace hg := hide hg; clear zb e1)
        have b12 := hide (L11.out.belR b11.out hg.out)
        have b13 := hide (b12.out.setCell (p := ⟨q1, 2, none⟩) (Nat.le_refl _) (.slice a3 (es.length + 1) c3))
        exact ⟨⟨k + 1, _, _, _, by simp, by omega, ⟨⟨KW.out.1.of (b13.out.block q0 FQ.out.1), KW.out.2.of (b13.out.block q0 FQ.out.1)⟩, by rw [HB.out]; exact lo_r HPR.out (L11.out.appR (by decide) HI2.out hO.out hg.out), BW.out.trans (b13.out.mono FQ.out.2.1)⟩⟩, by simp [intOf]; omega⟩
    · have e9 : n.toNat = k := by omega
      rw [← e9] at h4
      clear e9
      obtain ⟨PV, hPV⟩ : ∃ z9, z9 = beginS n.toNat args first := ⟨_, rfl⟩
      rw [← hPV] at h4
      have hr : PV.r = true := by rw [hPV]; rfl
      have HPV := hide hPV
      clear hPV
      obtain ⟨rr, pvs, pss⟩ := PV
      dsimp only at hr
      subst hr
      obtain ⟨a7, c7, rfl, -, -⟩ := h4.out.2.1.ov.slice
      obtain ⟨a8, c8, rfl, -, -⟩ := h4.out.2.1.os.slice
      have e0 := h4.out.2.1.bx.c0
      have e1 := h4.out.2.1.bx.c1
      have e2 := h4.out.2.1.bx.c2
      have g0 := h4.out.1.1.c0
      have g1 := h4.out.1.1.c1
      have g2 := h4.out.1.1.c2
      have f0 := h4.out.1.2.f0
      have f1 := h4.out.1.2.f1
      have f2 := h4.out.1.2.f2
      have G1 := hide (h4.out.2.1.fin h4.out.1.1 (Nat.lt_succ_of_lt FQ.out.1) (Nat.ne_of_lt FQ.out.1) h4.out.2.2 FQ.out.2.2)
      clear h4
      dsimp only at e0 e1 e2
      go_wp2_with fail
      have y0 := G1.out.1.c0
      have y1 := G1.out.1.c1
      have y2 := G1.out.1.c2
      clear e0 e1 e2 g0 g1 g2 f0 f1 f2
      exact bodyPost_ret (by simp [results, Try.results27, go_sem, y0, y1, y2]; try rfl) rfl ⟨_, rfl, HPV.out ▸ G1.out.2.1, G1.out.2.2⟩
end Go.Proofs.Ytmhicllhjiglkaa
namespace Go.Proofs.Ytmhicllhjiglkaa
open Go.RowKit
theorem none_S (w : World) : Calls Try.prog 37 #[] w fun e w' => e = .returned (.agg #[.bool false, .slice none 0 0, .slice none 0 0]) ∧ Below w.heap.size w w' := by
  go_enter Try.func37, Try.ntmps37
  go_wp2
  exact bodyPost_ret (by simp [results, Try.results37, go_sem]; try rfl) rfl ⟨rfl, (by repeat (first | exact Below.refl _ _ | (refine Below.setCell ?_ (by first | omega | (simp; done) | (simp; omega)) _) | (refine Below.alloc ?_ (by first | omega | (simp; done) | (simp; omega)) _)))⟩
theorem rv_one {w : World} {q : Nat} {x : R} (h : B6 w q 0 x) : RV w (some ⟨q, 0, none⟩) [x] := fun m y hy => by
  cases m with
  | zero => simp at hy; subst hy; exact ⟨q, 0, rfl, h⟩
  | succ m => simp at hy
theorem begin_told : beginS 2 [anyV.raw] 5 = ⟨true, [anyV.raw, (ofV 0).raw], [[5], [6]]⟩ := by
  simp [beginS, argV, List.range_succ]
theorem right_told7 : rightS true [anyV.raw, (ofV 0).raw] [[5], [6]] 2 7 = true := by decide +kernel
theorem right_told6 : rightS true [anyV.raw, (ofV 0).raw] [[5], [6]] 2 6 = false := by decide +kernel
set_option maxRecDepth 100000 in
set_option maxHeartbeats 8000000 in
theorem told_any (w : World) : Calls Try.prog 12 #[] w fun e w' => e = .returned (.bool true) ∧ Below w.heap.size w w' := by
  go_enter Try.func12, Try.ntmps12
  have cA := fun w => any_V w
  have cB := fun a w h => begin_S 2 a 1 [anyV.raw] 5 w h (by omega) (by omega) (by omega)
  rw [show Int.toNat 2 = 2 from rfl, begin_told] at cB
  have R7 := right_told7
  have R6 := right_told6
  have hY := fun (v : World) (t : TypeId) => B6.newV v anyV t
  obtain ⟨xx, hxx⟩ : ∃ z9, z9 = anyV := ⟨_, rfl⟩
  rw [← hxx] at cA cB R7 R6 hY
  clear hxx
  have cOf := fun w => of_V 0 w
  obtain ⟨zz, hzz⟩ : ∃ z9, z9 = ofV 0 := ⟨_, rfl⟩
  rw [← hzz] at cOf cB R7 R6
  clear hzz
  have HR7 := hide R7
  have HR6 := hide R6
  clear R7 R6
  go_upto_region 2 with (first | (go_at_call 40; refine (cA _).mono ?_; rintro e wA ⟨rfl, hA⟩; have hY2 := hide (hY wA 53); have hA2 := hide (hA.trans ((Below.refl _ _).alloc (hA.size) (.cells #[.int .i64 (up xx.s), .bool xx.k, .int .i64 xx.n, .int .i64 xx.lo, .int .i64 xx.hi, .int .i64 (up xx.p)] 53))); clear hA cA hY) | (go_at_call 27; refine (cB (some ⟨wA.heap.size, 0, none⟩) _ (rv_one hY2.out)).mono ?_; rintro e wB ⟨v, rfl, hR, hB⟩; obtain ⟨a, c, b, d, rfl, k1, k2, -, -, -, -⟩ := hR.rs; dsimp only at k1 k2 ⊢; replace hB := hide hB; have K1 := hide k1; have K2 := hide k2; clear k1 k2))
  go_name_world W hW
  obtain ⟨q, hq⟩ : ∃ z9, z9 = wB.heap.size := ⟨_, rfl⟩
  rw [← hq]
  obtain ⟨B0, -, uW⟩ := box1 wB _ _ _ _ W hW
  rw [← hq] at B0
  have BW : Hid (Below w.heap.size w W) := hide (hA2.out.trans ((hB.out.mono hA2.out.size).trans (uW.mono (Nat.le_trans hA2.out.size hB.out.size))))
  have K1' := K1.out.keep uW
  have K2' := K2.out.keep uW
  obtain ⟨b1, o1, e1, hz⟩ := K1' 1 zz.raw rfl
  subst e1
  obtain ⟨b2, o2, ev, e2, hc2, hl⟩ := K2' 1 [6] rfl
  subst e2
  obtain ⟨a3, c3, rfl, hri, -, -⟩ := hl
  obtain ⟨b3, o3, e3, hc3⟩ := hri 0 6 rfl
  subst e3
  have C7 : Hid (∀ w', Below W.heap.size W w' → Calls Try.prog 23 #[.agg #[.bool true, .slice (some ⟨b1, o1, none⟩) 2 c, .slice (some ⟨b2, o2, none⟩) 2 d], .int .i64 2, .int .i64 7] w' fun e w'' => e = .returned (.bool true) ∧ Below w'.heap.size w' w'') := hide (fun w' h => by
    have t := right_S (some ⟨b1, o1, none⟩) (some ⟨b2, o2, none⟩) c d true [xx.raw, zz.raw] [[5], [6]] 2 7 w' (K1'.keep h) (K2'.keep h) (by simp) (fun m l hm => by match m, hm with | 0, hm => (simp at hm; subst hm; simp) | 1, hm => (simp at hm; subst hm; simp) | m + 2, hm => simp at hm)
    rw [HR7.out] at t
    exact t)
  have C6 : Hid (∀ w', Below W.heap.size W w' → Calls Try.prog 23 #[.agg #[.bool true, .slice (some ⟨b1, o1, none⟩) 2 c, .slice (some ⟨b2, o2, none⟩) 2 d], .int .i64 2, .int .i64 6] w' fun e w'' => e = .returned (.bool false) ∧ Below w'.heap.size w' w'') := hide (fun w' h => by
    have t := right_S (some ⟨b1, o1, none⟩) (some ⟨b2, o2, none⟩) c d true [xx.raw, zz.raw] [[5], [6]] 2 6 w' (K1'.keep h) (K2'.keep h) (by simp) (fun m l hm => by match m, hm with | 0, hm => (simp at hm; subst hm; simp) | 1, hm => (simp at hm; subst hm; simp) | m + 2, hm => simp at hm)
    rw [HR6.out] at t
    exact t)
  have hfld : ∀ w : World, (Instr.field 29 (Value.agg #[Value.bool false, Value.slice none 0 0, Value.slice none 0 0]) 0).run Try.prog w = .ok (.bool false) w := fun w => by rfl
  have HS : Hid (∀ w', Below W.heap.size W w' → (w'.cell? ⟨q, 0, none⟩ = some (.bool true) ∧ w'.cell? ⟨q, 1, none⟩ = some (.slice (some ⟨b1, o1, none⟩) 2 c) ∧ w'.cell? ⟨q, 2, none⟩ = some (.slice (some ⟨b2, o2, none⟩) 2 d) ∧ w'.cell? ⟨b1, o1 + 6, none⟩ = some (.int .i64 (up zz.s)) ∧ w'.cell? ⟨b1, o1 + 7, none⟩ = some (.bool zz.k) ∧ w'.cell? ⟨b1, o1 + 8, none⟩ = some (.int .i64 zz.n) ∧ w'.cell? ⟨b1, o1 + 9, none⟩ = some (.int .i64 zz.lo) ∧ w'.cell? ⟨b1, o1 + 10, none⟩ = some (.int .i64 zz.hi) ∧ w'.cell? ⟨b1, o1 + 11, none⟩ = some (.int .i64 (up zz.p)) ∧ w'.cell? ⟨b2, o2 + 1, none⟩ = some (.slice (some ⟨b3, o3, none⟩) 1 c3) ∧ w'.cell? ⟨b3, o3, none⟩ = some (.int .i64 6))) := fun w' h => by
    have t0 := B0.keep h
    have t1 := hz.keep h
    exact ⟨t0.c0, t0.c1, t0.c2, t1.c0, t1.c1, t1.c2, t1.c3, t1.c4, t1.c5, (h.cell (p := ⟨b2, o2 + 1, none⟩) (World.block_lt_of_cell? W _ hc2)).trans hc2, (h.cell (p := ⟨b3, o3, none⟩) (World.block_lt_of_cell? W _ hc3)).trans hc3⟩
  clear hW hq B0 uW K1 K2 K1' K2' hz hc2 hri hc3 hA2 hB hY2 HR7 HR6 cB
  refine wp_region_held_drew (S := fun w' => w'.cell? ⟨q, 0, none⟩ = some (.bool true) ∧ w'.cell? ⟨q, 1, none⟩ = some (.slice (some ⟨b1, o1, none⟩) 2 c) ∧ w'.cell? ⟨q, 2, none⟩ = some (.slice (some ⟨b2, o2, none⟩) 2 d) ∧ w'.cell? ⟨b1, o1 + 6, none⟩ = some (.int .i64 (up zz.s)) ∧ w'.cell? ⟨b1, o1 + 7, none⟩ = some (.bool zz.k) ∧ w'.cell? ⟨b1, o1 + 8, none⟩ = some (.int .i64 zz.n) ∧ w'.cell? ⟨b1, o1 + 9, none⟩ = some (.int .i64 zz.lo) ∧ w'.cell? ⟨b1, o1 + 10, none⟩ = some (.int .i64 zz.hi) ∧ w'.cell? ⟨b1, o1 + 11, none⟩ = some (.int .i64 (up zz.p)) ∧ w'.cell? ⟨b2, o2 + 1, none⟩ = some (.slice (some ⟨b3, o3, none⟩) 1 c3) ∧ w'.cell? ⟨b3, o3, none⟩ = some (.int .i64 6)) (by kernel_rfl) (HS.out _ (Below.refl _ _).drew) (fun hH0 => ?_)
  obtain ⟨w0, hw0⟩ : ∃ w0, w0 = W.drew := ⟨_, rfl⟩
  (try rw [← hw0] at hH0)
  rw [← hw0]
  have b0 : Hid (Below W.heap.size W w0) := hw0 ▸ hide (Below.refl _ _).drew
  clear hw0
  refine wpAnyH_take (i := 0) (oi := ({ dst := some 5, op := Op.fieldAddr 29 (Operand.tmp 1) 0, type := 0, pos := _, after := _, guard := _ } : Oper)) (v := ?_) rfl (by kernel_rfl) (by kernel_rfl) (by kernel_rfl) (fun _ _ _ h => h) (Or.inl ⟨by rfl, ?_⟩) (by assumption) ?_
  rotate_left
  · (intro wz hSw; (try dsimp only at hSw); go_simp; try with_reducible rfl)
  simp only [Act.put, List.setIfInBounds_toArray, List.set_cons_zero, List.set_cons_succ]
  refine wpAnyH_take (i := 1) (oi := ({ dst := some 6, op := Op.load 4 (Operand.tmp 5), type := 4, pos := _, after := _, guard := _ } : Oper)) (v := ?_) rfl (by kernel_rfl) (by kernel_rfl) (by kernel_rfl) (fun _ _ _ h => h) (Or.inl ⟨by rfl, ?_⟩) (by assumption) ?_
  rotate_left
  · (intro wz hSw; (try dsimp only at hSw); go_simp; try with_reducible rfl)
  simp only [Act.put, List.setIfInBounds_toArray, List.set_cons_zero, List.set_cons_succ]
  refine wpAnyH_take (i := 2) (oi := ({ dst := some 7, op := Op.move (Operand.tmp 6), type := 4, pos := _, after := _, guard := _ } : Oper)) (v := ?_) rfl (by kernel_rfl) (by kernel_rfl) (by kernel_rfl) (fun _ _ _ h => h) (Or.inl ⟨by rfl, ?_⟩) (by assumption) ?_
  rotate_left
  · (intro wz hSw; (try dsimp only at hSw); go_simp; try with_reducible rfl)
  simp only [Act.put, List.setIfInBounds_toArray, List.set_cons_zero, List.set_cons_succ]
  refine wpAnyH_take (i := 3) (oi := ({ dst := some 8, op := Op.fieldAddr 29 (Operand.tmp 1) 1, type := 0, pos := _, after := _, guard := _ } : Oper)) (v := ?_) rfl (by kernel_rfl) (by kernel_rfl) (by kernel_rfl) (fun _ _ _ h => h) (Or.inl ⟨by rfl, ?_⟩) (by assumption) ?_
  rotate_left
  · (intro wz hSw; (try dsimp only at hSw); go_simp; try with_reducible rfl)
  simp only [Act.put, List.setIfInBounds_toArray, List.set_cons_zero, List.set_cons_succ]
  refine wpAnyH_take (i := 4) (oi := ({ dst := some 9, op := Op.load 27 (Operand.tmp 8), type := 27, pos := _, after := _, guard := _ } : Oper)) (v := ?_) rfl (by kernel_rfl) (by kernel_rfl) (by kernel_rfl) (fun _ _ _ h => h) (Or.inl ⟨by rfl, ?_⟩) (by assumption) ?_
  rotate_left
  · (intro wz hSw; (try dsimp only at hSw); go_simp; try with_reducible rfl)
  simp only [Act.put, List.setIfInBounds_toArray, List.set_cons_zero, List.set_cons_succ]
  refine wpAnyH_take (i := 5) (oi := ({ dst := some 10, op := Op.call { callee := Callee.builtin Builtin.len, args := #[Operand.tmp 9], argTypes := #[27] }, type := 3, pos := _, after := _, guard := _ } : Oper)) (v := ?_) rfl (by kernel_rfl) (by kernel_rfl) (by kernel_rfl) (fun _ _ _ h => h) (Or.inl ⟨by rfl, ?_⟩) (by assumption) ?_
  rotate_left
  · (intro wz hSw; (try dsimp only at hSw); go_simp; try with_reducible rfl)
  simp only [Act.put, List.setIfInBounds_toArray, List.set_cons_zero, List.set_cons_succ]
  refine wpAnyH_take (i := 6) (oi := ({ dst := some 11, op := Op.binOp BinOp.eql 3 (Operand.tmp 10) (Operand.const (Value.int IntKind.i64 2)) 3, type := 4, pos := _, after := _, guard := _ } : Oper)) (v := ?_) rfl (by kernel_rfl) (by kernel_rfl) (by kernel_rfl) (fun _ _ _ h => h) (Or.inl ⟨by rfl, ?_⟩) (by assumption) ?_
  rotate_left
  · (intro wz hSw; (try dsimp only at hSw); go_simp; try with_reducible rfl)
  simp only [Act.put, List.setIfInBounds_toArray, List.set_cons_zero, List.set_cons_succ]
  refine wpAnyH_take (i := 7) (oi := ({ dst := some 12, op := Op.pick (Operand.tmp 7) (Operand.tmp 11) (Operand.const (Value.bool false)), type := 4, pos := _, after := _, guard := _ } : Oper)) (v := ?_) rfl (by kernel_rfl) (by kernel_rfl) (by kernel_rfl) (fun _ _ _ h => h) (Or.inl ⟨by rfl, ?_⟩) (by assumption) ?_
  rotate_left
  · (intro wz hSw; (try dsimp only at hSw); go_simp; try with_reducible rfl)
  simp only [Act.put, List.setIfInBounds_toArray, List.set_cons_zero, List.set_cons_succ]
  refine wpAnyH_take (i := 8) (oi := ({ dst := some 13, op := Op.move (Operand.tmp 12), type := 4, pos := _, after := _, guard := _ } : Oper)) (v := ?_) rfl (by kernel_rfl) (by kernel_rfl) (by kernel_rfl) (fun _ _ _ h => h) (Or.inl ⟨by rfl, ?_⟩) (by assumption) ?_
  rotate_left
  · (intro wz hSw; (try dsimp only at hSw); go_simp; try with_reducible rfl)
  simp only [Act.put, List.setIfInBounds_toArray, List.set_cons_zero, List.set_cons_succ]
  refine wpAnyH_take (i := 9) (oi := ({ dst := some 14, op := Op.fieldAddr 29 (Operand.tmp 1) 2, type := 0, pos := _, after := _, guard := _ } : Oper)) (v := ?_) rfl (by kernel_rfl) (by kernel_rfl) (by kernel_rfl) (fun _ _ _ h => h) (Or.inl ⟨by rfl, ?_⟩) (by assumption) ?_
  rotate_left
  · (intro wz hSw; (try dsimp only at hSw); go_simp; try with_reducible rfl)
  simp only [Act.put, List.setIfInBounds_toArray, List.set_cons_zero, List.set_cons_succ]
  refine wpAnyH_take (i := 10) (oi := ({ dst := some 15, op := Op.load 23 (Operand.tmp 14), type := 23, pos := _, after := _, guard := _ } : Oper)) (v := ?_) rfl (by kernel_rfl) (by kernel_rfl) (by kernel_rfl) (fun _ _ _ h => h) (Or.inl ⟨by rfl, ?_⟩) (by assumption) ?_
  rotate_left
  · (intro wz hSw; (try dsimp only at hSw); go_simp; try with_reducible rfl)
  simp only [Act.put, List.setIfInBounds_toArray, List.set_cons_zero, List.set_cons_succ]
  refine wpAnyH_take (i := 11) (oi := ({ dst := some 16, op := Op.call { callee := Callee.builtin Builtin.len, args := #[Operand.tmp 15], argTypes := #[23] }, type := 3, pos := _, after := _, guard := _ } : Oper)) (v := ?_) rfl (by kernel_rfl) (by kernel_rfl) (by kernel_rfl) (fun _ _ _ h => h) (Or.inl ⟨by rfl, ?_⟩) (by assumption) ?_
  rotate_left
  · (intro wz hSw; (try dsimp only at hSw); go_simp; try with_reducible rfl)
  simp only [Act.put, List.setIfInBounds_toArray, List.set_cons_zero, List.set_cons_succ]
  refine wpAnyH_take (i := 12) (oi := ({ dst := some 17, op := Op.binOp BinOp.eql 3 (Operand.tmp 16) (Operand.const (Value.int IntKind.i64 2)) 3, type := 4, pos := _, after := _, guard := _ } : Oper)) (v := ?_) rfl (by kernel_rfl) (by kernel_rfl) (by kernel_rfl) (fun _ _ _ h => h) (Or.inl ⟨by rfl, ?_⟩) (by assumption) ?_
  rotate_left
  · (intro wz hSw; (try dsimp only at hSw); go_simp; try with_reducible rfl)
  simp only [Act.put, List.setIfInBounds_toArray, List.set_cons_zero, List.set_cons_succ]
  refine wpAnyH_take (i := 13) (oi := ({ dst := some 18, op := Op.pick (Operand.tmp 13) (Operand.tmp 17) (Operand.const (Value.bool false)), type := 4, pos := _, after := _, guard := _ } : Oper)) (v := ?_) rfl (by kernel_rfl) (by kernel_rfl) (by kernel_rfl) (fun _ _ _ h => h) (Or.inl ⟨by rfl, ?_⟩) (by assumption) ?_
  rotate_left
  · (intro wz hSw; (try dsimp only at hSw); go_simp; try with_reducible rfl)
  simp only [Act.put, List.setIfInBounds_toArray, List.set_cons_zero, List.set_cons_succ]
  refine wpAnyH_take (i := 14) (oi := ({ dst := some 19, op := Op.move (Operand.tmp 18), type := 4, pos := _, after := _, guard := _ } : Oper)) (v := ?_) rfl (by kernel_rfl) (by kernel_rfl) (by kernel_rfl) (fun _ _ _ h => h) (Or.inl ⟨by rfl, ?_⟩) (by assumption) ?_
  rotate_left
  · (intro wz hSw; (try dsimp only at hSw); go_simp; try with_reducible rfl)
  simp only [Act.put, List.setIfInBounds_toArray, List.set_cons_zero, List.set_cons_succ]
  refine wpAnyH_take (i := 15) (oi := ({ dst := some 20, op := Op.fieldAddr 29 (Operand.tmp 1) 1, type := 0, pos := _, after := _, guard := _ } : Oper)) (v := ?_) rfl (by kernel_rfl) (by kernel_rfl) (by kernel_rfl) (fun _ _ _ h => h) (Or.inl ⟨by rfl, ?_⟩) (by assumption) ?_
  rotate_left
  · (intro wz hSw; (try dsimp only at hSw); go_simp; try with_reducible rfl)
  simp only [Act.put, List.setIfInBounds_toArray, List.set_cons_zero, List.set_cons_succ]
  refine wpAnyH_take (i := 16) (oi := ({ dst := some 21, op := Op.load 27 (Operand.tmp 20), type := 27, pos := _, after := _, guard := _ } : Oper)) (v := ?_) rfl (by kernel_rfl) (by kernel_rfl) (by kernel_rfl) (fun _ _ _ h => h) (Or.inl ⟨by rfl, ?_⟩) (by assumption) ?_
  rotate_left
  · (intro wz hSw; (try dsimp only at hSw); go_simp; try with_reducible rfl)
  simp only [Act.put, List.setIfInBounds_toArray, List.set_cons_zero, List.set_cons_succ]
  refine wpAnyH_take (i := 17) (oi := ({ dst := some 22, op := Op.indexAddr 27 (Operand.tmp 21) (Operand.const (Value.int IntKind.i64 1)), type := 0, pos := _, after := _, guard := _ } : Oper)) (v := ?_) rfl (by kernel_rfl) (by kernel_rfl) (by kernel_rfl) (fun _ _ _ h => h) (Or.inl ⟨by rfl, ?_⟩) (by assumption) ?_
  rotate_left
  · (intro wz hSw; (try dsimp only at hSw); go_simp; try with_reducible rfl)
  simp only [Act.put, List.setIfInBounds_toArray, List.set_cons_zero, List.set_cons_succ]
  refine wpAnyH_take (i := 18) (oi := ({ dst := some 23, op := Op.load 53 (Operand.tmp 22), type := 53, pos := _, after := _, guard := _ } : Oper)) (v := ?_) rfl (by kernel_rfl) (by kernel_rfl) (by kernel_rfl) (fun _ _ _ h => h) (Or.inl ⟨by rfl, ?_⟩) (by assumption) ?_
  rotate_left
  · (intro wz hSw; (try dsimp only at hSw); go_simp; try with_reducible rfl)
  simp only [Act.put, List.setIfInBounds_toArray, List.set_cons_zero, List.set_cons_succ]
  refine wpAnyH_ready (rs := [19]) (by kernel_rfl) (by simp) ?_
  refine AllReadyH.cons (o := ({ dst := some 24, op := Op.call { callee := Callee.value (Operand.func 41), args := #[Operand.const (Value.int IntKind.i64 0)], argTypes := #[2] }, type := 53, pos := _, after := _, guard := _ } : Oper)) rfl (fun K hK => ?_) AllReadyH.nil
  · go_simp
    go_at_call 41
    refine (cOf _).mono ?_
    rintro e w1 ⟨rfl, hb1⟩
    have b1 := hide (b0.out.trans (hb1.mono b0.out.size))
    refine hK.out _ _ (HS.out _ b1.out) (fun hH1 => ?_)
    clear hK K hb1
    refine wpAnyH_take (i := 20) (oi := ({ dst := some 25, op := Op.binOp BinOp.eql 53 (Operand.tmp 23) (Operand.tmp 24) 53, type := 4, pos := _, after := _, guard := _ } : Oper)) (v := ?_) rfl (by kernel_rfl) (by kernel_rfl) (by kernel_rfl) (fun _ _ _ h => h) (Or.inl ⟨by rfl, ?_⟩) (by assumption) ?_
    rotate_left
    · (intro wz hSw; (try dsimp only at hSw); go_simp; try with_reducible rfl)
    simp only [Act.put, List.setIfInBounds_toArray, List.set_cons_zero, List.set_cons_succ]
    refine wpAnyH_take (i := 21) (oi := ({ dst := some 26, op := Op.pick (Operand.tmp 19) (Operand.tmp 25) (Operand.const (Value.bool false)), type := 4, pos := _, after := _, guard := _ } : Oper)) (v := ?_) rfl (by kernel_rfl) (by kernel_rfl) (by kernel_rfl) (fun _ _ _ h => h) (Or.inl ⟨by rfl, ?_⟩) (by assumption) ?_
    rotate_left
    · (intro wz hSw; (try dsimp only at hSw); go_simp; try with_reducible rfl)
    simp only [Act.put, List.setIfInBounds_toArray, List.set_cons_zero, List.set_cons_succ]
    refine wpAnyH_take (i := 22) (oi := ({ dst := some 27, op := Op.move (Operand.tmp 26), type := 4, pos := _, after := _, guard := _ } : Oper)) (v := ?_) rfl (by kernel_rfl) (by kernel_rfl) (by kernel_rfl) (fun _ _ _ h => h) (Or.inl ⟨by rfl, ?_⟩) (by assumption) ?_
    rotate_left
    · (intro wz hSw; (try dsimp only at hSw); go_simp; try with_reducible rfl)
    simp only [Act.put, List.setIfInBounds_toArray, List.set_cons_zero, List.set_cons_succ]
    refine wpAnyH_take (i := 23) (oi := ({ dst := some 28, op := Op.fieldAddr 29 (Operand.tmp 1) 2, type := 0, pos := _, after := _, guard := _ } : Oper)) (v := ?_) rfl (by kernel_rfl) (by kernel_rfl) (by kernel_rfl) (fun _ _ _ h => h) (Or.inl ⟨by rfl, ?_⟩) (by assumption) ?_
    rotate_left
    · (intro wz hSw; (try dsimp only at hSw); go_simp; try with_reducible rfl)
    simp only [Act.put, List.setIfInBounds_toArray, List.set_cons_zero, List.set_cons_succ]
    refine wpAnyH_take (i := 24) (oi := ({ dst := some 29, op := Op.load 23 (Operand.tmp 28), type := 23, pos := _, after := _, guard := _ } : Oper)) (v := ?_) rfl (by kernel_rfl) (by kernel_rfl) (by kernel_rfl) (fun _ _ _ h => h) (Or.inl ⟨by rfl, ?_⟩) (by assumption) ?_
    rotate_left
    · (intro wz hSw; (try dsimp only at hSw); go_simp; try with_reducible rfl)
    simp only [Act.put, List.setIfInBounds_toArray, List.set_cons_zero, List.set_cons_succ]
    refine wpAnyH_take (i := 25) (oi := ({ dst := some 30, op := Op.indexAddr 23 (Operand.tmp 29) (Operand.const (Value.int IntKind.i64 1)), type := 0, pos := _, after := _, guard := _ } : Oper)) (v := ?_) rfl (by kernel_rfl) (by kernel_rfl) (by kernel_rfl) (fun _ _ _ h => h) (Or.inl ⟨by rfl, ?_⟩) (by assumption) ?_
    rotate_left
    · (intro wz hSw; (try dsimp only at hSw); go_simp; try with_reducible rfl)
    simp only [Act.put, List.setIfInBounds_toArray, List.set_cons_zero, List.set_cons_succ]
    refine wpAnyH_take (i := 26) (oi := ({ dst := some 31, op := Op.load 38 (Operand.tmp 30), type := 38, pos := _, after := _, guard := _ } : Oper)) (v := ?_) rfl (by kernel_rfl) (by kernel_rfl) (by kernel_rfl) (fun _ _ _ h => h) (Or.inl ⟨by rfl, ?_⟩) (by assumption) ?_
    rotate_left
    · (intro wz hSw; (try dsimp only at hSw); go_simp; try with_reducible rfl)
    simp only [Act.put, List.setIfInBounds_toArray, List.set_cons_zero, List.set_cons_succ]
    refine wpAnyH_take (i := 27) (oi := ({ dst := some 32, op := Op.call { callee := Callee.builtin Builtin.len, args := #[Operand.tmp 31], argTypes := #[38] }, type := 3, pos := _, after := _, guard := _ } : Oper)) (v := ?_) rfl (by kernel_rfl) (by kernel_rfl) (by kernel_rfl) (fun _ _ _ h => h) (Or.inl ⟨by rfl, ?_⟩) (by assumption) ?_
    rotate_left
    · (intro wz hSw; (try dsimp only at hSw); go_simp; try with_reducible rfl)
    simp only [Act.put, List.setIfInBounds_toArray, List.set_cons_zero, List.set_cons_succ]
    refine wpAnyH_take (i := 28) (oi := ({ dst := some 33, op := Op.binOp BinOp.eql 3 (Operand.tmp 32) (Operand.const (Value.int IntKind.i64 1)) 3, type := 4, pos := _, after := _, guard := _ } : Oper)) (v := ?_) rfl (by kernel_rfl) (by kernel_rfl) (by kernel_rfl) (fun _ _ _ h => h) (Or.inl ⟨by rfl, ?_⟩) (by assumption) ?_
    rotate_left
    · (intro wz hSw; (try dsimp only at hSw); go_simp; try with_reducible rfl)
    simp only [Act.put, List.setIfInBounds_toArray, List.set_cons_zero, List.set_cons_succ]
    refine wpAnyH_take (i := 29) (oi := ({ dst := some 34, op := Op.pick (Operand.tmp 27) (Operand.tmp 33) (Operand.const (Value.bool false)), type := 4, pos := _, after := _, guard := _ } : Oper)) (v := ?_) rfl (by kernel_rfl) (by kernel_rfl) (by kernel_rfl) (fun _ _ _ h => h) (Or.inl ⟨by rfl, ?_⟩) (by assumption) ?_
    rotate_left
    · (intro wz hSw; (try dsimp only at hSw); go_simp; try with_reducible rfl)
    simp only [Act.put, List.setIfInBounds_toArray, List.set_cons_zero, List.set_cons_succ]
    refine wpAnyH_take (i := 30) (oi := ({ dst := some 35, op := Op.move (Operand.tmp 34), type := 4, pos := _, after := _, guard := _ } : Oper)) (v := ?_) rfl (by kernel_rfl) (by kernel_rfl) (by kernel_rfl) (fun _ _ _ h => h) (Or.inl ⟨by rfl, ?_⟩) (by assumption) ?_
    rotate_left
    · (intro wz hSw; (try dsimp only at hSw); go_simp; try with_reducible rfl)
    simp only [Act.put, List.setIfInBounds_toArray, List.set_cons_zero, List.set_cons_succ]
    refine wpAnyH_take (i := 31) (oi := ({ dst := some 36, op := Op.fieldAddr 29 (Operand.tmp 1) 2, type := 0, pos := _, after := _, guard := _ } : Oper)) (v := ?_) rfl (by kernel_rfl) (by kernel_rfl) (by kernel_rfl) (fun _ _ _ h => h) (Or.inl ⟨by rfl, ?_⟩) (by assumption) ?_
    rotate_left
    · (intro wz hSw; (try dsimp only at hSw); go_simp; try with_reducible rfl)
    simp only [Act.put, List.setIfInBounds_toArray, List.set_cons_zero, List.set_cons_succ]
    refine wpAnyH_take (i := 32) (oi := ({ dst := some 37, op := Op.load 23 (Operand.tmp 36), type := 23, pos := _, after := _, guard := _ } : Oper)) (v := ?_) rfl (by kernel_rfl) (by kernel_rfl) (by kernel_rfl) (fun _ _ _ h => h) (Or.inl ⟨by rfl, ?_⟩) (by assumption) ?_
    rotate_left
    · (intro wz hSw; (try dsimp only at hSw); go_simp; try with_reducible rfl)
    simp only [Act.put, List.setIfInBounds_toArray, List.set_cons_zero, List.set_cons_succ]
    refine wpAnyH_take (i := 33) (oi := ({ dst := some 38, op := Op.indexAddr 23 (Operand.tmp 37) (Operand.const (Value.int IntKind.i64 1)), type := 0, pos := _, after := _, guard := _ } : Oper)) (v := ?_) rfl (by kernel_rfl) (by kernel_rfl) (by kernel_rfl) (fun _ _ _ h => h) (Or.inl ⟨by rfl, ?_⟩) (by assumption) ?_
    rotate_left
    · (intro wz hSw; (try dsimp only at hSw); go_simp; try with_reducible rfl)
    simp only [Act.put, List.setIfInBounds_toArray, List.set_cons_zero, List.set_cons_succ]
    refine wpAnyH_take (i := 34) (oi := ({ dst := some 39, op := Op.load 38 (Operand.tmp 38), type := 38, pos := _, after := _, guard := _ } : Oper)) (v := ?_) rfl (by kernel_rfl) (by kernel_rfl) (by kernel_rfl) (fun _ _ _ h => h) (Or.inl ⟨by rfl, ?_⟩) (by assumption) ?_
    rotate_left
    · (intro wz hSw; (try dsimp only at hSw); go_simp; try with_reducible rfl)
    simp only [Act.put, List.setIfInBounds_toArray, List.set_cons_zero, List.set_cons_succ]
    refine wpAnyH_take (i := 35) (oi := ({ dst := some 40, op := Op.indexAddr 38 (Operand.tmp 39) (Operand.const (Value.int IntKind.i64 0)), type := 0, pos := _, after := _, guard := _ } : Oper)) (v := ?_) rfl (by kernel_rfl) (by kernel_rfl) (by kernel_rfl) (fun _ _ _ h => h) (Or.inl ⟨by rfl, ?_⟩) (by assumption) ?_
    rotate_left
    · (intro wz hSw; (try dsimp only at hSw); go_simp; try with_reducible rfl)
    simp only [Act.put, List.setIfInBounds_toArray, List.set_cons_zero, List.set_cons_succ]
    refine wpAnyH_take (i := 36) (oi := ({ dst := some 41, op := Op.load 3 (Operand.tmp 40), type := 3, pos := _, after := _, guard := _ } : Oper)) (v := ?_) rfl (by kernel_rfl) (by kernel_rfl) (by kernel_rfl) (fun _ _ _ h => h) (Or.inl ⟨by rfl, ?_⟩) (by assumption) ?_
    rotate_left
    · (intro wz hSw; (try dsimp only at hSw); go_simp; try with_reducible rfl)
    simp only [Act.put, List.setIfInBounds_toArray, List.set_cons_zero, List.set_cons_succ]
    refine wpAnyH_take (i := 37) (oi := ({ dst := some 42, op := Op.binOp BinOp.eql 3 (Operand.tmp 41) (Operand.const (Value.int IntKind.i64 6)) 3, type := 4, pos := _, after := _, guard := _ } : Oper)) (v := ?_) rfl (by kernel_rfl) (by kernel_rfl) (by kernel_rfl) (fun _ _ _ h => h) (Or.inl ⟨by rfl, ?_⟩) (by assumption) ?_
    rotate_left
    · (intro wz hSw; (try dsimp only at hSw); go_simp; try with_reducible rfl)
    simp only [Act.put, List.setIfInBounds_toArray, List.set_cons_zero, List.set_cons_succ]
    refine wpAnyH_take (i := 38) (oi := ({ dst := some 43, op := Op.pick (Operand.tmp 35) (Operand.tmp 42) (Operand.const (Value.bool false)), type := 4, pos := _, after := _, guard := _ } : Oper)) (v := ?_) rfl (by kernel_rfl) (by kernel_rfl) (by kernel_rfl) (fun _ _ _ h => h) (Or.inl ⟨by rfl, ?_⟩) (by assumption) ?_
    rotate_left
    · (intro wz hSw; (try dsimp only at hSw); go_simp; try with_reducible rfl)
    simp only [Act.put, List.setIfInBounds_toArray, List.set_cons_zero, List.set_cons_succ]
    refine wpAnyH_take (i := 39) (oi := ({ dst := some 44, op := Op.move (Operand.tmp 43), type := 4, pos := _, after := _, guard := _ } : Oper)) (v := ?_) rfl (by kernel_rfl) (by kernel_rfl) (by kernel_rfl) (fun _ _ _ h => h) (Or.inl ⟨by rfl, ?_⟩) (by assumption) ?_
    rotate_left
    · (intro wz hSw; (try dsimp only at hSw); go_simp; try with_reducible rfl)
    simp only [Act.put, List.setIfInBounds_toArray, List.set_cons_zero, List.set_cons_succ]
    refine wpAnyH_ready (rs := [40]) (by kernel_rfl) (by simp) ?_
    refine AllReadyH.cons (o := ({ dst := some 45, op := Op.call { callee := Callee.value (Operand.func 37), args := #[], argTypes := #[] }, type := 29, pos := _, after := _, guard := _ } : Oper)) rfl (fun K hK => ?_) AllReadyH.nil
    · go_simp
      go_at_call 37
      refine (none_S _).mono ?_
      rintro e w2 ⟨rfl, hb2⟩
      have b2 := hide (b1.out.trans (hb2.mono b1.out.size))
      refine hK.out _ _ (HS.out _ b2.out) (fun hH2 => ?_)
      clear hK K hb2
      refine wpAnyH_take (i := 41) (oi := ({ dst := some 46, op := Op.field 29 (Operand.tmp 45) 0, type := 4, pos := _, after := _, guard := _ } : Oper)) (v := ?_) rfl (by kernel_rfl) (by kernel_rfl) (by kernel_rfl) (fun _ _ _ h => h) (Or.inl ⟨by rfl, ?_⟩) (by assumption) ?_
      rotate_left
      · (intro wz hSw; (try dsimp only at hSw); go_simp; try with_reducible rfl)
      simp only [Act.put, List.setIfInBounds_toArray, List.set_cons_zero, List.set_cons_succ]
      refine wpAnyH_take (i := 42) (oi := ({ dst := some 47, op := Op.unOp UnOp.not 4 (Operand.tmp 46), type := 4, pos := _, after := _, guard := _ } : Oper)) (v := ?_) rfl (by kernel_rfl) (by kernel_rfl) (by kernel_rfl) (fun _ _ _ h => h) (Or.inl ⟨by rfl, ?_⟩) (by assumption) ?_
      rotate_left
      · (intro wz hSw; (try dsimp only at hSw); go_simp; try with_reducible rfl)
      simp only [Act.put, List.setIfInBounds_toArray, List.set_cons_zero, List.set_cons_succ]
      refine wpAnyH_take (i := 43) (oi := ({ dst := some 48, op := Op.pick (Operand.tmp 44) (Operand.tmp 47) (Operand.const (Value.bool false)), type := 4, pos := _, after := _, guard := _ } : Oper)) (v := ?_) rfl (by kernel_rfl) (by kernel_rfl) (by kernel_rfl) (fun _ _ _ h => h) (Or.inl ⟨by rfl, ?_⟩) (by assumption) ?_
      rotate_left
      · (intro wz hSw; (try dsimp only at hSw); go_simp; try with_reducible rfl)
      simp only [Act.put, List.setIfInBounds_toArray, List.set_cons_zero, List.set_cons_succ]
      refine wpAnyH_take (i := 44) (oi := ({ dst := some 49, op := Op.move (Operand.tmp 48), type := 4, pos := _, after := _, guard := _ } : Oper)) (v := ?_) rfl (by kernel_rfl) (by kernel_rfl) (by kernel_rfl) (fun _ _ _ h => h) (Or.inl ⟨by rfl, ?_⟩) (by assumption) ?_
      rotate_left
      · (intro wz hSw; (try dsimp only at hSw); go_simp; try with_reducible rfl)
      simp only [Act.put, List.setIfInBounds_toArray, List.set_cons_zero, List.set_cons_succ]
      refine wpAnyH_take (i := 45) (oi := ({ dst := some 50, op := Op.load 29 (Operand.tmp 1), type := 29, pos := _, after := _, guard := _ } : Oper)) (v := ?_) rfl (by kernel_rfl) (by kernel_rfl) (by kernel_rfl) (fun _ _ _ h => h) (Or.inl ⟨by rfl, ?_⟩) (by assumption) ?_
      rotate_left
      · (intro wz hSw; (try dsimp only at hSw); go_simp; try with_reducible rfl)
      simp only [Act.put, List.setIfInBounds_toArray, List.set_cons_zero, List.set_cons_succ]
      refine wpAnyH_ready (rs := [46]) (by kernel_rfl) (by simp) ?_
      refine AllReadyH.cons (o := ({ dst := some 51, op := Op.call { callee := Callee.value (Operand.func 23), args := #[Operand.tmp 50, Operand.const (Value.int IntKind.i64 2), Operand.const (Value.int IntKind.i64 7)], argTypes := #[29, 3, 3] }, type := 4, pos := _, after := _, guard := _ } : Oper)) rfl (fun K hK => ?_) AllReadyH.nil
      · go_simp
        go_at_call 23
        refine (C7.out _ b2.out).mono ?_
        rintro e w3 ⟨rfl, hb3⟩
        have b3 := hide (b2.out.trans (hb3.mono b2.out.size))
        refine hK.out _ _ (HS.out _ b3.out) (fun hH3 => ?_)
        clear hK K hb3
        refine wpAnyH_take (i := 47) (oi := ({ dst := some 52, op := Op.pick (Operand.tmp 49) (Operand.tmp 51) (Operand.const (Value.bool false)), type := 4, pos := _, after := _, guard := _ } : Oper)) (v := ?_) rfl (by kernel_rfl) (by kernel_rfl) (by kernel_rfl) (fun _ _ _ h => h) (Or.inl ⟨by rfl, ?_⟩) (by assumption) ?_
        rotate_left
        · (intro wz hSw; (try dsimp only at hSw); go_simp; try with_reducible rfl)
        simp only [Act.put, List.setIfInBounds_toArray, List.set_cons_zero, List.set_cons_succ]
        refine wpAnyH_take (i := 48) (oi := ({ dst := some 53, op := Op.move (Operand.tmp 52), type := 4, pos := _, after := _, guard := _ } : Oper)) (v := ?_) rfl (by kernel_rfl) (by kernel_rfl) (by kernel_rfl) (fun _ _ _ h => h) (Or.inl ⟨by rfl, ?_⟩) (by assumption) ?_
        rotate_left
        · (intro wz hSw; (try dsimp only at hSw); go_simp; try with_reducible rfl)
        simp only [Act.put, List.setIfInBounds_toArray, List.set_cons_zero, List.set_cons_succ]
        refine wpAnyH_take (i := 49) (oi := ({ dst := some 54, op := Op.load 29 (Operand.tmp 1), type := 29, pos := _, after := _, guard := _ } : Oper)) (v := ?_) rfl (by kernel_rfl) (by kernel_rfl) (by kernel_rfl) (fun _ _ _ h => h) (Or.inl ⟨by rfl, ?_⟩) (by assumption) ?_
        rotate_left
        · (intro wz hSw; (try dsimp only at hSw); go_simp; try with_reducible rfl)
        simp only [Act.put, List.setIfInBounds_toArray, List.set_cons_zero, List.set_cons_succ]
        refine wpAnyH_ready (rs := [50]) (by kernel_rfl) (by simp) ?_
        refine AllReadyH.cons (o := ({ dst := some 55, op := Op.call { callee := Callee.value (Operand.func 23), args := #[Operand.tmp 54, Operand.const (Value.int IntKind.i64 2), Operand.const (Value.int IntKind.i64 6)], argTypes := #[29, 3, 3] }, type := 4, pos := _, after := _, guard := _ } : Oper)) rfl (fun K hK => ?_) AllReadyH.nil
        · go_simp
          go_at_call 23
          refine (C6.out _ b3.out).mono ?_
          rintro e w4 ⟨rfl, hb4⟩
          have b4 := hide (b3.out.trans (hb4.mono b3.out.size))
          refine hK.out _ _ (HS.out _ b4.out) (fun hH4 => ?_)
          clear hK K hb4
          refine wpAnyH_take (i := 51) (oi := ({ dst := some 56, op := Op.unOp UnOp.not 4 (Operand.tmp 55), type := 4, pos := _, after := _, guard := _ } : Oper)) (v := ?_) rfl (by kernel_rfl) (by kernel_rfl) (by kernel_rfl) (fun _ _ _ h => h) (Or.inl ⟨by rfl, ?_⟩) (by assumption) ?_
          rotate_left
          · (intro wz hSw; (try dsimp only at hSw); go_simp; try with_reducible rfl)
          simp only [Act.put, List.setIfInBounds_toArray, List.set_cons_zero, List.set_cons_succ]
          refine wpAnyH_take (i := 52) (oi := ({ dst := some 57, op := Op.pick (Operand.tmp 53) (Operand.tmp 56) (Operand.const (Value.bool false)), type := 4, pos := _, after := _, guard := _ } : Oper)) (v := ?_) rfl (by kernel_rfl) (by kernel_rfl) (by kernel_rfl) (fun _ _ _ h => h) (Or.inl ⟨by rfl, ?_⟩) (by assumption) ?_
          rotate_left
          · (intro wz hSw; (try dsimp only at hSw); go_simp; try with_reducible rfl)
          simp only [Act.put, List.setIfInBounds_toArray, List.set_cons_zero, List.set_cons_succ]
          refine wpAnyH_take (i := 53) (oi := ({ dst := some 0, op := Op.assign (Operand.tmp 57), type := 4, pos := _, after := _, guard := _ } : Oper)) (v := ?_) rfl (by kernel_rfl) (by kernel_rfl) (by kernel_rfl) (fun _ _ _ h => h) (Or.inl ⟨by rfl, ?_⟩) (by assumption) ?_
          rotate_left
          · (intro wz hSw; (try dsimp only at hSw); go_simp; try with_reducible rfl)
          simp only [Act.put, List.setIfInBounds_toArray, List.set_cons_zero]
          refine wpAnyH_done (by kernel_rfl) ?_ _
          go_wp2
          go_ret
          exact ⟨by simp, BW.out.trans (b4.out.mono BW.out.size)⟩
end Go.Proofs.Ytmhicllhjiglkaa
namespace Go.Proofs.Ytmhicllhjiglkaa
open Go.RowKit
theorem Rn.st3 {w : World} {N q : Nat} {v : Value} {s : S} (h : Rn w N v s) (hq : q < N) (r : Bool) (va sa : Value) : Rn (st3 w q r va sa) N v s := h.of (fun k hk _ => st3_block w q r va sa k (by omega))
set_option maxRecDepth 100000 in
set_option maxHeartbeats 4000000 in
theorem fix_any (a b : Option Addr) (c d : Nat) (r : Bool) (vs : List R) (ss : List (List Int)) (w : World) (hv : RV w a vs) (hs : RR w b ss) (hvi : ∀ (m : Nat) (x : R), vs[m]? = some x → i64 x.n ∧ i64 x.lo ∧ i64 x.hi) :
    Calls Try.prog 10 #[.agg #[.bool r, .slice a vs.length c, .slice b ss.length d]] w fun e w' => ∃ v, e = .returned v ∧ Below w.heap.size w w' ∧ ∃ s, Rn w' w.heap.size v s ∧ ∃ us, SOk s us 6 70 := by
  have HV := hide hv
  have HR := hide hs
  have cF : ∀ w', Below w.heap.size w w' → Calls Try.prog 38 #[.agg #[.bool r, .slice a vs.length c, .slice b ss.length d], .int .i64 6, .int .i64 70] w' fun e w'' => ∃ v, e = .returned v ∧ Below w'.heap.size w' w'' ∧ ∃ s, Rn w'' w'.heap.size v s ∧ ∃ us, SOk s us 6 70 := fun w' h => fix_S a b c d r vs ss 6 70 w' (hv.keep h) (hs.keep h) hvi (by omega) (by omega) (by omega)
  clear hv hs hvi
  go_enter Try.func10, Try.ntmps10
  go_upto_region 1 with fail
  go_name_world W hW
  obtain ⟨q1, h1⟩ : ∃ z9, z9 = w.heap.size + 1 := ⟨_, rfl⟩
  rw [← h1]
  obtain ⟨q0, h0⟩ : ∃ z9, z9 = w.heap.size := ⟨_, rfl⟩
  rw [← h0]
  obtain ⟨B0, -, B1, F1, u⟩ := boxes2 w _ _ _ _ _ _ _ _ W hW
  have e0 := h0 ▸ B0.c0
  have e1 := h0 ▸ B0.c1
  have e2 := h0 ▸ B0.c2
  rw [← h1] at B1 F1
  have HB1 := hide B1
  have HF1 := hide F1
  have HU := hide u
  have HQ : Hid (w.heap.size ≤ q1) := hide (by omega)
  clear hW B0 B1 F1 h1 h0
  go_wp2_with (go_at_call 38; refine (cF _ HU.out).mono ?_; rintro e wB ⟨v, rfl, hB, s, hR, us, hO⟩; have hR2 := hide hR; obtain ⟨a5, c5, b5, d5, hv5, -⟩ := hR; subst hv5; have z := HB1.out.keep hB; have y := HF1.out.of (hB.block q1 HB1.out.lt); have z0 := z.c0; have z1 := z.c1; have z2 := z.c2; have y0 := y.f0; have y1 := y.f1; have y2 := y.f2; have HZ := hide z; have HBB := hide hB; have HOO := hide hO; clear z y hB hO cF e0 e1 e2)
  have x := HZ.out.put3 s.r (.slice a5 s.vs.length c5) (.slice b5 s.ss.length d5)
  have x0 := x.c0
  have x1 := x.c1
  have x2 := x.c2
  clear z0 z1 z2 y0 y1 y2
  exact bodyPost_ret (by simp [results, Try.results10, go_sem, x0, x1, x2]; try rfl) rfl ⟨_, rfl, st3_below (HU.out.trans (HBB.out.mono HU.out.size)) q1 HQ.out _ _ _, s, (hR2.out.st3 HB1.out.lt _ _ _).mono HU.out.size, us, HOO.out⟩
end Go.Proofs.Ytmhicllhjiglkaa
namespace Go.Proofs.Ytmhicllhjiglkaa
open Go.RowKit
theorem St.fixl {w0 wr : World} {a : Option Addr} {n c : Nat} {ps : List Int} (h : St w0 wr (.slice a n c) ps) : St w0 wr (.slice a ps.length c) ps := by
  obtain ⟨a2, c2, e⟩ := h.slice
  obtain ⟨rfl, rfl, rfl⟩ : a = a2 ∧ n = ps.length ∧ c = c2 := by simpa using e
  exact h
set_option maxRecDepth 100000 in
set_option maxHeartbeats 16000000 in
theorem bunion_own (xs ys : List Int) (a b : Option Addr) (c d : Nat) (w : World) (hr : Ri w a xs) (hs : Ri w b ys) (hl : xs.length + ys.length ≤ 100000) (hc : xs.length ≤ c) (hd : ys.length ≤ d) (na : a = none → c = 0) (nb : b = none → d = 0) :
    Calls Try.prog 87 #[.slice a xs.length c, .slice b ys.length d] w fun e w' => ∃ a' c', e = .returned (.slice a' (uniL xs ys).length c') ∧ St w w' (.slice a' (uniL xs ys).length c') (uniL xs ys) := by
  have HR : Hid (Ri w a xs) := hr
  have HS : Hid (Ri w b ys) := hs
  have NA := hide na
  have NB := hide nb
  clear hr hs na nb
  obtain ⟨C, hmk, hown⟩ := made_own (xs.length + ys.length) (by omega)
  have hST := hide (hown w)
  clear hown
  have hmk2 : ∀ w : World, (Instr.makeSlice 38 (.int .i64 0) (.int .i64 ((xs.length : Int) + ys.length))).run Try.prog w = .ok (.slice (some ⟨w.heap.size, 0, none⟩) 0 (xs.length + ys.length)) (w.alloc (.cells C 3)) := fun w => by simpa using hmk w
  clear hmk
  go_enter Try.func87, Try.ntmps87
  go_wp2_with fail
  clear hmk2
  go_loopw [0, 1, 5] (fun s0 s1 s5 wr => ∃ (a' b' : Option Addr) (zs us ps : List Int) (c' d' : Nat), s0 = .slice a' zs.length c' ∧ s1 = .slice b' us.length d' ∧ zs.length ≤ c' ∧ us.length ≤ d' ∧ ps.length + zs.length + us.length ≤ xs.length + ys.length ∧ Hid ((a' = none → c' = 0) ∧ (b' = none → d' = 0) ∧ Su a xs a' zs ∧ Su b ys b' us ∧ St w wr s5 ps ∧ ps ++ uniL zs us = uniL xs ys)) (fun s0 s1 _ _ => lenOf s0 + lenOf s1)
  case atStart => exact ⟨a, b, xs, ys, [], c, d, rfl, rfl, hc, hd, by simp, ⟨NA.out, NB.out, fun _ h => h, fun _ h => h, hST.out, rfl⟩⟩
  case round =>
    obtain ⟨a', b', zs, us, ps, c', d', rfl, rfl, h2, h3, hb, h4⟩ := hrel
    have hS := h4.out.2.2.2.2.1
    obtain ⟨a5, c5, rfl⟩ := hS.slice
    have HST : Hid (St w wr (.slice a5 ps.length c5) ps) := hS
    have HZ : Hid (Ri wr a' zs) := h4.out.2.2.1 _ (HR.out.keep' hS.bel)
    have HU : Hid (Ri wr b' us) := h4.out.2.2.2.1 _ (HS.out.keep' hS.bel)
    clear hS hST
    by_cases hex : zs = [] ∨ us = []
    · have HE : Hid (ps ++ zs ++ us = uniL xs ys) := hide (by
        rw [← h4.out.2.2.2.2.2, List.append_assoc]
        rcases hex with rfl | rfl
        · simp [uniL]
        · rw [uniL_nil]; simp)
      have HSu := hide h4.out.2.2.2.1
      have nz : a' = none → zs = [] ∧ c' = 0 := fun e => by
        refine ⟨?_, h4.out.1 e⟩
        cases zs with
        | nil => rfl
        | cons y t => obtain ⟨b2, o2, e2⟩ := HZ.out.some; rw [e] at e2; cases e2
      have nu : b' = none → us = [] ∧ d' = 0 := fun e => by
        refine ⟨?_, h4.out.2.1 e⟩
        cases us with
        | nil => rfl
        | cons y t => obtain ⟨b2, o2, e2⟩ := HU.out.some; rw [e] at e2; cases e2
      clear h4
      rcases hex with rfl | rfl
      · cases a' with
        | none =>
          obtain ⟨ez, ec⟩ := nz rfl
          clear ez
          subst ec
          clear nz
          cases b' with
          | none =>
            obtain ⟨eu, ed⟩ := nu rfl
            subst eu
            subst ed
            clear nu
            go_wp2_with (first | (at_builtin; refine wpList_app0 w wr rfl (.tmp 46) (.tmp 47) rfl _ ps HST.out rfl rfl ?_) | (at_builtin; refine wpList_app0 w wr rfl (.tmp 49) (.tmp 50) rfl _ ps HST.out (by simp [go_sem]) rfl ?_))
            all_goals (go_ret; have hE : ps = uniL xs ys := (by have t := HE.out; simpa using t); rw [← hE]; exact ⟨_, _, by simp [go_sem], HST.out.fixl⟩)
          | some bd =>
            clear nu
            go_wp2_with (first | (at_builtin; refine wpList_app0 w wr rfl (.tmp 46) (.tmp 47) rfl _ ps HST.out rfl rfl ?_) | (at_builtin; have HU2 := hide (HSu.out _ (HS.out.keep' HST.out.bel)); refine wpList_appN w wr rfl (.tmp 49) (.tmp 50) rfl _ ps us bd d' HST.out (by simp [go_sem]) rfl HU2.out (by simp at *; omega) ?_; intro a3 c3 w3 hS3; replace hS3 := (hide hS3)))
            all_goals (go_ret; have hE : ps ++ us = uniL xs ys := (by have t := HE.out; simpa using t); rw [← hE]; exact ⟨_, _, by simp [go_sem], hS3.out.fixl⟩)
        | some ad =>
          clear nz
          cases b' with
          | none =>
            obtain ⟨eu, ed⟩ := nu rfl
            subst eu
            subst ed
            clear nu
            go_wp2_with (first | (at_builtin; refine wpList_appN w wr rfl (.tmp 46) (.tmp 47) rfl _ ps [] ad c' HST.out rfl rfl HZ.out (by simp at *; omega) ?_; intro a2 c2 w2 hS2; replace hS2 := (hide hS2)) | (at_builtin; refine wpList_app0 w w2 rfl (.tmp 49) (.tmp 50) rfl _ (ps ++ []) hS2.out (by simp [go_sem]) rfl ?_))
            all_goals (go_ret; have hE : ps ++ [] = uniL xs ys := (by have t := HE.out; simpa using t); rw [← hE]; exact ⟨_, _, by simp [go_sem], hS2.out.fixl⟩)
          | some bd =>
            clear nu
            go_wp2_with (first | (at_builtin; refine wpList_appN w wr rfl (.tmp 46) (.tmp 47) rfl _ ps [] ad c' HST.out rfl rfl HZ.out (by simp at *; omega) ?_; intro a2 c2 w2 hS2; replace hS2 := (hide hS2)) | (at_builtin; have HU2 := hide (HSu.out _ (HS.out.keep' hS2.out.bel)); refine wpList_appN w w2 rfl (.tmp 49) (.tmp 50) rfl _ (ps ++ []) us bd d' hS2.out (by simp [go_sem]) rfl HU2.out (by simp at *; omega) ?_; intro a3 c3 w3 hS3; replace hS3 := (hide hS3)))
            all_goals (go_ret; have hE : (ps ++ []) ++ us = uniL xs ys := (by have t := HE.out; simpa using t); rw [← hE]; exact ⟨_, _, by simp [go_sem], hS3.out.fixl⟩)
      · cases a' with
        | none =>
          obtain ⟨ez, ec⟩ := nz rfl
          subst ez
          subst ec
          clear nz
          cases b' with
          | none =>
            obtain ⟨eu, ed⟩ := nu rfl
            clear eu
            subst ed
            clear nu
            go_wp2_with (first | (at_builtin; refine wpList_app0 w wr rfl (.tmp 46) (.tmp 47) rfl _ ps HST.out rfl rfl ?_) | (at_builtin; refine wpList_app0 w wr rfl (.tmp 49) (.tmp 50) rfl _ ps HST.out (by simp [go_sem]) rfl ?_))
            all_goals (go_ret; have hE : ps = uniL xs ys := (by have t := HE.out; simpa using t); rw [← hE]; exact ⟨_, _, by simp [go_sem], HST.out.fixl⟩)
          | some bd =>
            clear nu
            go_wp2_with (first | (at_builtin; refine wpList_app0 w wr rfl (.tmp 46) (.tmp 47) rfl _ ps HST.out rfl rfl ?_) | (at_builtin; have HU2 := hide (HSu.out _ (HS.out.keep' HST.out.bel)); refine wpList_appN w wr rfl (.tmp 49) (.tmp 50) rfl _ ps [] bd d' HST.out (by simp [go_sem]) rfl HU2.out (by simp at *; omega) ?_; intro a3 c3 w3 hS3; replace hS3 := (hide hS3)))
            all_goals (go_ret; have hE : ps ++ [] = uniL xs ys := (by have t := HE.out; simpa using t); rw [← hE]; exact ⟨_, _, by simp [go_sem], hS3.out.fixl⟩)
        | some ad =>
          clear nz
          cases b' with
          | none =>
            obtain ⟨eu, ed⟩ := nu rfl
            clear eu
            subst ed
            clear nu
            go_wp2_with (first | (at_builtin; refine wpList_appN w wr rfl (.tmp 46) (.tmp 47) rfl _ ps zs ad c' HST.out rfl rfl HZ.out (by simp at *; omega) ?_; intro a2 c2 w2 hS2; replace hS2 := (hide hS2)) | (at_builtin; refine wpList_app0 w w2 rfl (.tmp 49) (.tmp 50) rfl _ (ps ++ zs) hS2.out (by simp [go_sem]) rfl ?_))
            all_goals (go_ret; have hE : ps ++ zs = uniL xs ys := (by have t := HE.out; simpa using t); rw [← hE]; exact ⟨_, _, by simp [go_sem], hS2.out.fixl⟩)
          | some bd =>
            clear nu
            go_wp2_with (first | (at_builtin; refine wpList_appN w wr rfl (.tmp 46) (.tmp 47) rfl _ ps zs ad c' HST.out rfl rfl HZ.out (by simp at *; omega) ?_; intro a2 c2 w2 hS2; replace hS2 := (hide hS2)) | (at_builtin; have HU2 := hide (HSu.out _ (HS.out.keep' hS2.out.bel)); refine wpList_appN w w2 rfl (.tmp 49) (.tmp 50) rfl _ (ps ++ zs) [] bd d' hS2.out (by simp [go_sem]) rfl HU2.out (by simp at *; omega) ?_; intro a3 c3 w3 hS3; replace hS3 := (hide hS3)))
            all_goals (go_ret; have hE : (ps ++ zs) ++ [] = uniL xs ys := (by have t := HE.out; simpa using t); rw [← hE]; exact ⟨_, _, by simp [go_sem], hS3.out.fixl⟩)
    · cases zs with
      | nil => exact absurd (Or.inl rfl) hex
      | cons x s =>
        cases us with
        | nil => exact absurd (Or.inr rfl) hex
        | cons y t =>
          clear hex
          obtain ⟨bz, oz, rfl, hcell, -⟩ := HZ.out.head
          obtain ⟨bu, ou, rfl, hcell2, -⟩ := HU.out.head
          have h2' : s.length + 1 ≤ c' := by simpa using h2
          have h3' : t.length + 1 ≤ d' := by simpa using h3
          have hp2 : ps.length ≤ 1000000 := by simp at hb; omega
          clear HZ HU
          have S1 : Hid (Su a xs (if c' = 1 then some ⟨bz, oz, none⟩ else some ⟨bz, oz + 1, none⟩) s) := hide (fun w2 h5 => (Ri.tail (h4.out.2.2.1 w2 h5)).step h2')
          have S2 : Hid (Su b ys (if d' = 1 then some ⟨bu, ou, none⟩ else some ⟨bu, ou + 1, none⟩) t) := hide (fun w2 h5 => (Ri.tail (h4.out.2.2.2.1 w2 h5)).step h3')
          have N1 : Hid ((if c' = 1 then some (⟨bz, oz, none⟩ : Addr) else some ⟨bz, oz + 1, none⟩) = none → c' - 1 = 0) := hide (fun e => by split at e <;> cases e)
          have N2 : Hid ((if d' = 1 then some (⟨bu, ou, none⟩ : Addr) else some ⟨bu, ou + 1, none⟩) = none → d' - 1 = 0) := hide (fun e => by split at e <;> cases e)
          have S3 := hide h4.out.2.2.1
          have S4 := hide h4.out.2.2.2.1
          have HE := hide h4.out.2.2.2.2.2
          clear h4
          by_cases hlt : x < y
          · have HE2 : Hid (ps ++ [x] ++ uniL s (y :: t) = uniL xs ys) := hide (by have e := HE.out; rw [uniL, if_pos hlt] at e; simpa using e)
            have hm : min x y = x := by omega
            have q1 : (y == x) = false := beq_eq_false_iff_ne.2 (by omega)
            go_wp2
            go_quiet (fail)
            have HS2 := hide (HST.out.drewN nq)
            go_wp2_with (at_builtin; refine wpList_app1 w (wr.drewN nq) rfl (.tmp 42) (.tmp 44) rfl _ ps x HS2.out (by simp [go_sem]) rfl hp2 ?_; intro a2 c2 w2 hS2; replace hS2 := (hide hS2))
            go_round
            case rel => exact ⟨_, _, s, y :: t, ps ++ [x], c' - 1, d', rfl, rfl, by first | exact h2 | omega, by first | exact h3 | omega, by simp at *; omega, ⟨N1.out, (fun e => by cases e), S1.out, S4.out, by simpa using hS2.out, HE2.out⟩⟩
            case measure => simp [lenOf]; try omega
          by_cases hgt : y < x
          · have HE2 : Hid (ps ++ [y] ++ uniL (x :: s) t = uniL xs ys) := hide (by have e := HE.out; rw [uniL, if_neg hlt, if_pos hgt] at e; simpa using e)
            have hm : min x y = y := by omega
            have q1 : (x == y) = false := beq_eq_false_iff_ne.2 (by omega)
            go_wp2
            go_quiet (fail)
            have HS2 := hide (HST.out.drewN nq)
            go_wp2_with (at_builtin; refine wpList_app1 w (wr.drewN nq) rfl (.tmp 42) (.tmp 44) rfl _ ps y HS2.out (by simp [go_sem]) rfl hp2 ?_; intro a2 c2 w2 hS2; replace hS2 := (hide hS2))
            go_round
            case rel => exact ⟨_, _, x :: s, t, ps ++ [y], c', d' - 1, rfl, rfl, by first | exact h2 | omega, by first | exact h3 | omega, by simp at *; omega, ⟨(fun e => by cases e), N2.out, S3.out, S2.out, by simpa using hS2.out, HE2.out⟩⟩
            case measure => simp [lenOf]; try omega
          · have HE2 : Hid (ps ++ [x] ++ uniL s t = uniL xs ys) := hide (by have e := HE.out; rw [uniL, if_neg hlt, if_neg hgt] at e; simpa using e)
            obtain rfl : x = y := by omega
            have hm : min x x = x := by omega
            go_wp2
            go_quiet (fail)
            have HS2 := hide (HST.out.drewN nq)
            go_wp2_with (at_builtin; refine wpList_app1 w (wr.drewN nq) rfl (.tmp 42) (.tmp 44) rfl _ ps x HS2.out (by simp [go_sem]) rfl hp2 ?_; intro a2 c2 w2 hS2; replace hS2 := (hide hS2))
            go_round
            case rel => exact ⟨_, _, s, t, ps ++ [x], c' - 1, d' - 1, rfl, rfl, by first | exact h2 | omega, by first | exact h3 | omega, by simp at *; omega, ⟨N1.out, N2.out, S1.out, S2.out, by simpa using hS2.out, HE2.out⟩⟩
            case measure => simp [lenOf]; try omega
end Go.Proofs.Ytmhicllhjiglkaa
namespace Go.Proofs.Ytmhicllhjiglkaa
open Go.RowKit
set_option maxRecDepth 100000 in
set_option maxHeartbeats 16000000 in
theorem join_V (x y : V) (w : World) (hx : x.p &&& 3 = x.p) (hy : y.p &&& 3 = y.p) : Calls Try.prog 44 #[.agg #[.int .i64 (up x.s), .bool x.k, .int .i64 x.n, .int .i64 x.lo, .int .i64 x.hi, .int .i64 (up x.p)], .agg #[.int .i64 (up y.s), .bool y.k, .int .i64 y.n, .int .i64 y.lo, .int .i64 y.hi, .int .i64 (up y.p)]] w fun e w' => e = .returned (.agg #[.int .i64 (up (joinV x y).s), .bool (joinV x y).k, .int .i64 (joinV x y).n, .int .i64 (joinV x y).lo, .int .i64 (joinV x y).hi, .int .i64 (up (joinV x y).p)]) ∧ Below w.heap.size w w' := by
  have x0 : Br (((w.alloc (.cells #[.int .i64 (up x.s), .bool x.k, .int .i64 x.n, .int .i64 x.lo, .int .i64 x.hi, .int .i64 (up x.p)] 53)).alloc (.cells #[.int .i64 (up y.s), .bool y.k, .int .i64 y.n, .int .i64 y.lo, .int .i64 y.hi, .int .i64 (up y.p)] 53)).alloc (.cells #[.int .i64 0, .bool false, .int .i64 0, .int .i64 0, .int .i64 0, .int .i64 0] 53)) (w.heap.size) (up x.s) x.k x.n x.lo x.hi (up x.p) := (((Br.new w (up x.s) x.k x.n x.lo x.hi (up x.p) 53)).keep ((Below.refl _ _).alloc (Nat.le_refl _) _)).keep ((Below.refl _ _).alloc (Nat.le_refl _) _)
  have x1 : Br (((w.alloc (.cells #[.int .i64 (up x.s), .bool x.k, .int .i64 x.n, .int .i64 x.lo, .int .i64 x.hi, .int .i64 (up x.p)] 53)).alloc (.cells #[.int .i64 (up y.s), .bool y.k, .int .i64 y.n, .int .i64 y.lo, .int .i64 y.hi, .int .i64 (up y.p)] 53)).alloc (.cells #[.int .i64 0, .bool false, .int .i64 0, .int .i64 0, .int .i64 0, .int .i64 0] 53)) (w.heap.size + 1) (up y.s) y.k y.n y.lo y.hi (up y.p) := ((by simpa using Br.new (w.alloc (.cells #[.int .i64 (up x.s), .bool x.k, .int .i64 x.n, .int .i64 x.lo, .int .i64 x.hi, .int .i64 (up x.p)] 53)) (up y.s) y.k y.n y.lo y.hi (up y.p) 53 : Br ((w.alloc (.cells #[.int .i64 (up x.s), .bool x.k, .int .i64 x.n, .int .i64 x.lo, .int .i64 x.hi, .int .i64 (up x.p)] 53)).alloc (.cells #[.int .i64 (up y.s), .bool y.k, .int .i64 y.n, .int .i64 y.lo, .int .i64 y.hi, .int .i64 (up y.p)] 53)) (w.heap.size + 1) (up y.s) y.k y.n y.lo y.hi (up y.p))).keep ((Below.refl _ _).alloc (Nat.le_refl _) _)
  have x2 : Br (((w.alloc (.cells #[.int .i64 (up x.s), .bool x.k, .int .i64 x.n, .int .i64 x.lo, .int .i64 x.hi, .int .i64 (up x.p)] 53)).alloc (.cells #[.int .i64 (up y.s), .bool y.k, .int .i64 y.n, .int .i64 y.lo, .int .i64 y.hi, .int .i64 (up y.p)] 53)).alloc (.cells #[.int .i64 0, .bool false, .int .i64 0, .int .i64 0, .int .i64 0, .int .i64 0] 53)) (w.heap.size + 1 + 1) 0 false 0 0 0 0 := (by simpa using Br.new ((w.alloc (.cells #[.int .i64 (up x.s), .bool x.k, .int .i64 x.n, .int .i64 x.lo, .int .i64 x.hi, .int .i64 (up x.p)] 53)).alloc (.cells #[.int .i64 (up y.s), .bool y.k, .int .i64 y.n, .int .i64 y.lo, .int .i64 y.hi, .int .i64 (up y.p)] 53)) 0 false 0 0 0 0 53 : Br (((w.alloc (.cells #[.int .i64 (up x.s), .bool x.k, .int .i64 x.n, .int .i64 x.lo, .int .i64 x.hi, .int .i64 (up x.p)] 53)).alloc (.cells #[.int .i64 (up y.s), .bool y.k, .int .i64 y.n, .int .i64 y.lo, .int .i64 y.hi, .int .i64 (up y.p)] 53)).alloc (.cells #[.int .i64 0, .bool false, .int .i64 0, .int .i64 0, .int .i64 0, .int .i64 0] 53)) (w.heap.size + 1 + 1) 0 false 0 0 0 0)
  have xf : Fz (((w.alloc (.cells #[.int .i64 (up x.s), .bool x.k, .int .i64 x.n, .int .i64 x.lo, .int .i64 x.hi, .int .i64 (up x.p)] 53)).alloc (.cells #[.int .i64 (up y.s), .bool y.k, .int .i64 y.n, .int .i64 y.lo, .int .i64 y.hi, .int .i64 (up y.p)] 53)).alloc (.cells #[.int .i64 0, .bool false, .int .i64 0, .int .i64 0, .int .i64 0, .int .i64 0] 53)) (w.heap.size + 1 + 1) := by simpa using Fz.new ((w.alloc (.cells #[.int .i64 (up x.s), .bool x.k, .int .i64 x.n, .int .i64 x.lo, .int .i64 x.hi, .int .i64 (up x.p)] 53)).alloc (.cells #[.int .i64 (up y.s), .bool y.k, .int .i64 y.n, .int .i64 y.lo, .int .i64 y.hi, .int .i64 (up y.p)] 53)) 0 false 0 0 0 0 53
  have xb : Below w.heap.size w (((w.alloc (.cells #[.int .i64 (up x.s), .bool x.k, .int .i64 x.n, .int .i64 x.lo, .int .i64 x.hi, .int .i64 (up x.p)] 53)).alloc (.cells #[.int .i64 (up y.s), .bool y.k, .int .i64 y.n, .int .i64 y.lo, .int .i64 y.hi, .int .i64 (up y.p)] 53)).alloc (.cells #[.int .i64 0, .bool false, .int .i64 0, .int .i64 0, .int .i64 0, .int .i64 0] 53)) := (by repeat (first | exact Below.refl _ _ | (refine Below.drew ?_) | (refine below_drewN ?_ _) | (refine Below.setCell ?_ (by first | omega | (simp; done) | (simp; omega)) _) | (refine Below.alloc ?_ (by first | omega | (simp; done) | (simp; omega)) _) | (refine Below.trans ?_ (Below.mono (by assumption) (by first | omega | (simp; done) | (simp; omega))))))
  go_enter Try.func44, Try.ntmps44
  go_upto_region 1 with fail
  go_name_world W hW
  rw [hW] at x0 x1 x2 xf xb
  clear hW
  obtain ⟨N, hN⟩ : ∃ N, N = w.heap.size := ⟨_, rfl⟩
  rw [← hN] at x0 x1 x2 xf xb ⊢
  have HN : Hid (N = w.heap.size) := hN
  clear hN
  have HCL : Hid (∀ a b : World, (a.cell? ⟨N, 0, none⟩ = some (.int .i64 (up x.s)) ∧ a.cell? ⟨N, 1, none⟩ = some (.bool x.k) ∧ a.cell? ⟨N, 2, none⟩ = some (.int .i64 x.n) ∧ a.cell? ⟨N, 3, none⟩ = some (.int .i64 x.lo) ∧ a.cell? ⟨N, 4, none⟩ = some (.int .i64 x.hi) ∧ a.cell? ⟨N, 5, none⟩ = some (.int .i64 (up x.p)) ∧ a.cell? ⟨(N + 1), 0, none⟩ = some (.int .i64 (up y.s)) ∧ a.cell? ⟨(N + 1), 1, none⟩ = some (.bool y.k) ∧ a.cell? ⟨(N + 1), 2, none⟩ = some (.int .i64 y.n) ∧ a.cell? ⟨(N + 1), 3, none⟩ = some (.int .i64 y.lo) ∧ a.cell? ⟨(N + 1), 4, none⟩ = some (.int .i64 y.hi) ∧ a.cell? ⟨(N + 1), 5, none⟩ = some (.int .i64 (up y.p)) ∧ Hid (Br a N (up x.s) x.k x.n x.lo x.hi (up x.p) ∧ Br a (N + 1) (up y.s) y.k y.n y.lo y.hi (up y.p) ∧ Rw a (N + 1 + 1) ∧ Below N w a)) → Below a.heap.size a b → (b.cell? ⟨N, 0, none⟩ = some (.int .i64 (up x.s)) ∧ b.cell? ⟨N, 1, none⟩ = some (.bool x.k) ∧ b.cell? ⟨N, 2, none⟩ = some (.int .i64 x.n) ∧ b.cell? ⟨N, 3, none⟩ = some (.int .i64 x.lo) ∧ b.cell? ⟨N, 4, none⟩ = some (.int .i64 x.hi) ∧ b.cell? ⟨N, 5, none⟩ = some (.int .i64 (up x.p)) ∧ b.cell? ⟨(N + 1), 0, none⟩ = some (.int .i64 (up y.s)) ∧ b.cell? ⟨(N + 1), 1, none⟩ = some (.bool y.k) ∧ b.cell? ⟨(N + 1), 2, none⟩ = some (.int .i64 y.n) ∧ b.cell? ⟨(N + 1), 3, none⟩ = some (.int .i64 y.lo) ∧ b.cell? ⟨(N + 1), 4, none⟩ = some (.int .i64 y.hi) ∧ b.cell? ⟨(N + 1), 5, none⟩ = some (.int .i64 (up y.p)) ∧ Hid (Br b N (up x.s) x.k x.n x.lo x.hi (up x.p) ∧ Br b (N + 1) (up y.s) y.k y.n y.lo y.hi (up y.p) ∧ Rw b (N + 1 + 1) ∧ Below N w b))) := fun a b h hb => by
    have y9 := (h.2.2.2.2.2.2.2.2.2.2.2.2).out
    have z9 : Br b N (up x.s) x.k x.n x.lo x.hi (up x.p) ∧ Br b (N + 1) (up y.s) y.k y.n y.lo y.hi (up y.p) ∧ Rw b (N + 1 + 1) ∧ Below N w b := ⟨y9.1.keep hb, y9.2.1.keep hb, y9.2.2.1.keep hb, y9.2.2.2.trans (hb.mono (Nat.le_of_lt y9.1.lt))⟩
    exact ⟨z9.1.c0, z9.1.c1, z9.1.c2, z9.1.c3, z9.1.c4, z9.1.c5, z9.2.1.c0, z9.2.1.c1, z9.2.1.c2, z9.2.1.c3, z9.2.1.c4, z9.2.1.c5, z9⟩
  have z0 : Br W N (up x.s) x.k x.n x.lo x.hi (up x.p) ∧ Br W (N + 1) (up y.s) y.k y.n y.lo y.hi (up y.p) ∧ Rw W (N + 1 + 1) ∧ Below N w W := ⟨x0, x1, ⟨_, _, _, _, _, _, x2, xf⟩, xb⟩
  have hS0 : W.cell? ⟨N, 0, none⟩ = some (.int .i64 (up x.s)) ∧ W.cell? ⟨N, 1, none⟩ = some (.bool x.k) ∧ W.cell? ⟨N, 2, none⟩ = some (.int .i64 x.n) ∧ W.cell? ⟨N, 3, none⟩ = some (.int .i64 x.lo) ∧ W.cell? ⟨N, 4, none⟩ = some (.int .i64 x.hi) ∧ W.cell? ⟨N, 5, none⟩ = some (.int .i64 (up x.p)) ∧ W.cell? ⟨(N + 1), 0, none⟩ = some (.int .i64 (up y.s)) ∧ W.cell? ⟨(N + 1), 1, none⟩ = some (.bool y.k) ∧ W.cell? ⟨(N + 1), 2, none⟩ = some (.int .i64 y.n) ∧ W.cell? ⟨(N + 1), 3, none⟩ = some (.int .i64 y.lo) ∧ W.cell? ⟨(N + 1), 4, none⟩ = some (.int .i64 y.hi) ∧ W.cell? ⟨(N + 1), 5, none⟩ = some (.int .i64 (up y.p)) ∧ Hid (Br W N (up x.s) x.k x.n x.lo x.hi (up x.p) ∧ Br W (N + 1) (up y.s) y.k y.n y.lo y.hi (up y.p) ∧ Rw W (N + 1 + 1) ∧ Below N w W) := ⟨z0.1.c0, z0.1.c1, z0.1.c2, z0.1.c3, z0.1.c4, z0.1.c5, z0.2.1.c0, z0.2.1.c1, z0.2.1.c2, z0.2.1.c3, z0.2.1.c4, z0.2.1.c5, z0⟩
  clear x0 x1 x2 xf xb z0
  refine wp_region_held_drew (S := fun w' => w'.cell? ⟨N, 0, none⟩ = some (.int .i64 (up x.s)) ∧ w'.cell? ⟨N, 1, none⟩ = some (.bool x.k) ∧ w'.cell? ⟨N, 2, none⟩ = some (.int .i64 x.n) ∧ w'.cell? ⟨N, 3, none⟩ = some (.int .i64 x.lo) ∧ w'.cell? ⟨N, 4, none⟩ = some (.int .i64 x.hi) ∧ w'.cell? ⟨N, 5, none⟩ = some (.int .i64 (up x.p)) ∧ w'.cell? ⟨(N + 1), 0, none⟩ = some (.int .i64 (up y.s)) ∧ w'.cell? ⟨(N + 1), 1, none⟩ = some (.bool y.k) ∧ w'.cell? ⟨(N + 1), 2, none⟩ = some (.int .i64 y.n) ∧ w'.cell? ⟨(N + 1), 3, none⟩ = some (.int .i64 y.lo) ∧ w'.cell? ⟨(N + 1), 4, none⟩ = some (.int .i64 y.hi) ∧ w'.cell? ⟨(N + 1), 5, none⟩ = some (.int .i64 (up y.p)) ∧ Hid (Br w' N (up x.s) x.k x.n x.lo x.hi (up x.p) ∧ Br w' (N + 1) (up y.s) y.k y.n y.lo y.hi (up y.p) ∧ Rw w' (N + 1 + 1) ∧ Below N w w')) (by kernel_rfl) (HCL.out _ _ hS0 ((Below.refl _ _).drew)) (fun hHeld => ?_)
  refine wpAnyH_take (i := 0) (oi := ({ dst := some 5, op := Op.fieldAddr 53 (Operand.tmp 2) 0, type := 0, pos := _, after := _, guard := _ } : Oper)) (v := ?_) rfl (by kernel_rfl) (by kernel_rfl) (by kernel_rfl) (fun _ _ _ h => h) (Or.inl ⟨by rfl, ?_⟩) (by assumption) ?_
  rotate_left
  · (intro wz hSw; (try dsimp only at hSw); go_simp; try with_reducible rfl)
  simp only [Act.put, List.setIfInBounds_toArray, List.set_cons_zero, List.set_cons_succ]
  refine wpAnyH_take (i := 1) (oi := ({ dst := some 6, op := Op.load 3 (Operand.tmp 5), type := 3, pos := _, after := _, guard := _ } : Oper)) (v := ?_) rfl (by kernel_rfl) (by kernel_rfl) (by kernel_rfl) (fun _ _ _ h => h) (Or.inl ⟨by rfl, ?_⟩) (by assumption) ?_
  rotate_left
  · (intro wz hSw; (try dsimp only at hSw); go_simp; try with_reducible rfl)
  simp only [Act.put, List.setIfInBounds_toArray, List.set_cons_zero, List.set_cons_succ]
  refine wpAnyH_take (i := 2) (oi := ({ dst := some 7, op := Op.fieldAddr 53 (Operand.tmp 3) 0, type := 0, pos := _, after := _, guard := _ } : Oper)) (v := ?_) rfl (by kernel_rfl) (by kernel_rfl) (by kernel_rfl) (fun _ _ _ h => h) (Or.inl ⟨by rfl, ?_⟩) (by assumption) ?_
  rotate_left
  · (intro wz hSw; (try dsimp only at hSw); go_simp; try with_reducible rfl)
  simp only [Act.put, List.setIfInBounds_toArray, List.set_cons_zero, List.set_cons_succ]
  refine wpAnyH_take (i := 3) (oi := ({ dst := some 8, op := Op.load 3 (Operand.tmp 7), type := 3, pos := _, after := _, guard := _ } : Oper)) (v := ?_) rfl (by kernel_rfl) (by kernel_rfl) (by kernel_rfl) (fun _ _ _ h => h) (Or.inl ⟨by rfl, ?_⟩) (by assumption) ?_
  rotate_left
  · (intro wz hSw; (try dsimp only at hSw); go_simp; try with_reducible rfl)
  simp only [Act.put, List.setIfInBounds_toArray, List.set_cons_zero, List.set_cons_succ]
  refine wpAnyH_take (i := 5) (oi := ({ dst := some 10, op := Op.fieldAddr 53 (Operand.tmp 2) 1, type := 0, pos := _, after := _, guard := _ } : Oper)) (v := ?_) rfl (by kernel_rfl) (by kernel_rfl) (by kernel_rfl) (fun _ _ _ h => h) (Or.inl ⟨by rfl, ?_⟩) (by assumption) ?_
  rotate_left
  · (intro wz hSw; (try dsimp only at hSw); go_simp; try with_reducible rfl)
  simp only [Act.put, List.setIfInBounds_toArray, List.set_cons_zero, List.set_cons_succ]
  refine wpAnyH_take (i := 6) (oi := ({ dst := some 11, op := Op.load 50 (Operand.tmp 10), type := 50, pos := _, after := _, guard := _ } : Oper)) (v := ?_) rfl (by kernel_rfl) (by kernel_rfl) (by kernel_rfl) (fun _ _ _ h => h) (Or.inl ⟨by rfl, ?_⟩) (by assumption) ?_
  rotate_left
  · (intro wz hSw; (try dsimp only at hSw); go_simp; try with_reducible rfl)
  simp only [Act.put, List.setIfInBounds_toArray, List.set_cons_zero, List.set_cons_succ]
  refine wpAnyH_take (i := 7) (oi := ({ dst := some 12, op := Op.fieldAddr 53 (Operand.tmp 3) 1, type := 0, pos := _, after := _, guard := _ } : Oper)) (v := ?_) rfl (by kernel_rfl) (by kernel_rfl) (by kernel_rfl) (fun _ _ _ h => h) (Or.inl ⟨by rfl, ?_⟩) (by assumption) ?_
  rotate_left
  · (intro wz hSw; (try dsimp only at hSw); go_simp; try with_reducible rfl)
  simp only [Act.put, List.setIfInBounds_toArray, List.set_cons_zero, List.set_cons_succ]
  refine wpAnyH_take (i := 8) (oi := ({ dst := some 13, op := Op.load 50 (Operand.tmp 12), type := 50, pos := _, after := _, guard := _ } : Oper)) (v := ?_) rfl (by kernel_rfl) (by kernel_rfl) (by kernel_rfl) (fun _ _ _ h => h) (Or.inl ⟨by rfl, ?_⟩) (by assumption) ?_
  rotate_left
  · (intro wz hSw; (try dsimp only at hSw); go_simp; try with_reducible rfl)
  simp only [Act.put, List.setIfInBounds_toArray, List.set_cons_zero, List.set_cons_succ]
  refine wpAnyH_take (i := 10) (oi := ({ dst := some 15, op := Op.fieldAddr 53 (Operand.tmp 2) 2, type := 0, pos := _, after := _, guard := _ } : Oper)) (v := ?_) rfl (by kernel_rfl) (by kernel_rfl) (by kernel_rfl) (fun _ _ _ h => h) (Or.inl ⟨by rfl, ?_⟩) (by assumption) ?_
  rotate_left
  · (intro wz hSw; (try dsimp only at hSw); go_simp; try with_reducible rfl)
  simp only [Act.put, List.setIfInBounds_toArray, List.set_cons_zero, List.set_cons_succ]
  refine wpAnyH_take (i := 11) (oi := ({ dst := some 16, op := Op.load 51 (Operand.tmp 15), type := 51, pos := _, after := _, guard := _ } : Oper)) (v := ?_) rfl (by kernel_rfl) (by kernel_rfl) (by kernel_rfl) (fun _ _ _ h => h) (Or.inl ⟨by rfl, ?_⟩) (by assumption) ?_
  rotate_left
  · (intro wz hSw; (try dsimp only at hSw); go_simp; try with_reducible rfl)
  simp only [Act.put, List.setIfInBounds_toArray, List.set_cons_zero, List.set_cons_succ]
  refine wpAnyH_take (i := 12) (oi := ({ dst := some 17, op := Op.fieldAddr 53 (Operand.tmp 3) 2, type := 0, pos := _, after := _, guard := _ } : Oper)) (v := ?_) rfl (by kernel_rfl) (by kernel_rfl) (by kernel_rfl) (fun _ _ _ h => h) (Or.inl ⟨by rfl, ?_⟩) (by assumption) ?_
  rotate_left
  · (intro wz hSw; (try dsimp only at hSw); go_simp; try with_reducible rfl)
  simp only [Act.put, List.setIfInBounds_toArray, List.set_cons_zero, List.set_cons_succ]
  refine wpAnyH_take (i := 13) (oi := ({ dst := some 18, op := Op.load 51 (Operand.tmp 17), type := 51, pos := _, after := _, guard := _ } : Oper)) (v := ?_) rfl (by kernel_rfl) (by kernel_rfl) (by kernel_rfl) (fun _ _ _ h => h) (Or.inl ⟨by rfl, ?_⟩) (by assumption) ?_
  rotate_left
  · (intro wz hSw; (try dsimp only at hSw); go_simp; try with_reducible rfl)
  simp only [Act.put, List.setIfInBounds_toArray, List.set_cons_zero, List.set_cons_succ]
  refine wpAnyH_take (i := 15) (oi := ({ dst := some 20, op := Op.fieldAddr 53 (Operand.tmp 2) 3, type := 0, pos := _, after := _, guard := _ } : Oper)) (v := ?_) rfl (by kernel_rfl) (by kernel_rfl) (by kernel_rfl) (fun _ _ _ h => h) (Or.inl ⟨by rfl, ?_⟩) (by assumption) ?_
  rotate_left
  · (intro wz hSw; (try dsimp only at hSw); go_simp; try with_reducible rfl)
  simp only [Act.put, List.setIfInBounds_toArray, List.set_cons_zero, List.set_cons_succ]
  refine wpAnyH_take (i := 16) (oi := ({ dst := some 21, op := Op.load 3 (Operand.tmp 20), type := 3, pos := _, after := _, guard := _ } : Oper)) (v := ?_) rfl (by kernel_rfl) (by kernel_rfl) (by kernel_rfl) (fun _ _ _ h => h) (Or.inl ⟨by rfl, ?_⟩) (by assumption) ?_
  rotate_left
  · (intro wz hSw; (try dsimp only at hSw); go_simp; try with_reducible rfl)
  simp only [Act.put, List.setIfInBounds_toArray, List.set_cons_zero, List.set_cons_succ]
  refine wpAnyH_take (i := 17) (oi := ({ dst := some 22, op := Op.fieldAddr 53 (Operand.tmp 3) 3, type := 0, pos := _, after := _, guard := _ } : Oper)) (v := ?_) rfl (by kernel_rfl) (by kernel_rfl) (by kernel_rfl) (fun _ _ _ h => h) (Or.inl ⟨by rfl, ?_⟩) (by assumption) ?_
  rotate_left
  · (intro wz hSw; (try dsimp only at hSw); go_simp; try with_reducible rfl)
  simp only [Act.put, List.setIfInBounds_toArray, List.set_cons_zero, List.set_cons_succ]
  refine wpAnyH_take (i := 18) (oi := ({ dst := some 23, op := Op.load 3 (Operand.tmp 22), type := 3, pos := _, after := _, guard := _ } : Oper)) (v := ?_) rfl (by kernel_rfl) (by kernel_rfl) (by kernel_rfl) (fun _ _ _ h => h) (Or.inl ⟨by rfl, ?_⟩) (by assumption) ?_
  rotate_left
  · (intro wz hSw; (try dsimp only at hSw); go_simp; try with_reducible rfl)
  simp only [Act.put, List.setIfInBounds_toArray, List.set_cons_zero, List.set_cons_succ]
  refine wpAnyH_ready (rs := [4]) (by kernel_rfl) (by simp) ?_
  refine AllReadyH.cons (o := ({ dst := some 9, op := Op.call { callee := Callee.value (Operand.func 88), args := #[Operand.tmp 6, Operand.tmp 8], argTypes := #[3, 3] }, type := 3, pos := _, after := _, guard := _ } : Oper)) rfl (fun K hK => ?_) AllReadyH.nil
  go_simp
  go_at_call 88
  refine (lift (sjoinB _ _ _) (by assumption) HCL.out).mono ?_
  rintro e v1 ⟨rfl, g1⟩
  refine hK.out _ _ g1 (fun hHeld => ?_)
  clear hK K
  refine wpAnyH_ready (rs := [9]) (by kernel_rfl) (by simp) ?_
  refine AllReadyH.cons (o := ({ dst := some 14, op := Op.call { callee := Callee.value (Operand.func 89), args := #[Operand.tmp 11, Operand.tmp 13], argTypes := #[50, 50] }, type := 50, pos := _, after := _, guard := _ } : Oper)) rfl (fun K hK => ?_) AllReadyH.nil
  go_simp
  go_at_call 89
  refine (lift (kjoin_any _ _ _ _ _) (by assumption) HCL.out).mono ?_
  rintro e v2 ⟨rfl, g2⟩
  refine hK.out _ _ g2 (fun hHeld => ?_)
  clear hK K
  refine wpAnyH_ready (rs := [14]) (by kernel_rfl) (by simp) ?_
  refine AllReadyH.cons (o := ({ dst := some 19, op := Op.call { callee := Callee.value (Operand.func 90), args := #[Operand.tmp 16, Operand.tmp 18], argTypes := #[51, 51] }, type := 51, pos := _, after := _, guard := _ } : Oper)) rfl (fun K hK => ?_) AllReadyH.nil
  go_simp
  go_at_call 90
  refine (lift (bel3 (njoin_any _ _ _ _ _)) (by assumption) HCL.out).mono ?_
  rintro e v3 ⟨rfl, g3⟩
  refine hK.out _ _ g3 (fun hHeld => ?_)
  clear hK K
  refine wpAnyH_ready (rs := [19]) (by kernel_rfl) (by simp) ?_
  refine AllReadyH.cons (o := ({ dst := some 24, op := Op.call { callee := Callee.value (Operand.func 91), args := #[Operand.tmp 21, Operand.tmp 23], argTypes := #[3, 3] }, type := 3, pos := _, after := _, guard := _ } : Oper)) rfl (fun K hK => ?_) AllReadyH.nil
  go_simp
  go_at_call 91
  refine (lift (pjoinB _ _ _ hx hy) (by assumption) HCL.out).mono ?_
  rintro e v4 ⟨rfl, g4⟩
  refine hK.out _ _ g4 (fun hHeld => ?_)
  clear hK K
  refine wpAnyH_take (i := 20) (oi := ({ dst := some 25, op := Op.build 53 #[(0, Operand.tmp 9), (1, Operand.tmp 14), (2, Operand.tmp 19), (3, Operand.tmp 24)], type := 53, pos := _, after := _, guard := _ } : Oper)) (v := ?_) rfl (by kernel_rfl) (by kernel_rfl) (by kernel_rfl) (fun _ _ _ h => h) (Or.inl ⟨by rfl, ?_⟩) (by assumption) ?_
  rotate_left
  · (intro wz hSw; (try dsimp only at hSw); go_simp; try with_reducible rfl)
  simp only [Act.put, List.setIfInBounds_toArray, List.set_cons_zero, List.set_cons_succ]
  refine wpAnyH_ready (rs := [21]) (by kernel_rfl) (by simp) ?_
  refine AllReadyH.cons (o := ({ dst := none, op := Op.store 53 (Operand.tmp 4) (Operand.tmp 25), type := 0, pos := _, after := _, guard := _ } : Oper)) rfl (fun K hK => ?_) AllReadyH.nil
  have zz := (hHeld.2.2.2.2.2.2.2.2.2.2.2.2).out
  obtain ⟨s9, k9, n9, lo9, hi9, p9, zb, zf⟩ := zz.2.2.1
  have zc0 := zb.c0
  have zf0 := zf.f0
  have zc1 := zb.c1
  have zf1 := zf.f1
  have zc2 := zb.c2
  have zf2 := zf.f2
  have zc3 := zb.c3
  have zf3 := zf.f3
  have zc4 := zb.c4
  have zf4 := zf.f4
  have zc5 := zb.c5
  have zf5 := zf.f5
  go_simp
  have zw := zb.wrote (up (x.s ||| y.s)) (joinI x.k x.n y.k y.n) (joinN x.k x.n y.k y.n) (min x.lo y.lo) (max x.hi y.hi) (up (x.p ||| y.p))
  have zi : Br (st6 v4 (N + 1 + 1) (.int .i64 (up (x.s ||| y.s))) (.bool (joinI x.k x.n y.k y.n)) (.int .i64 (joinN x.k x.n y.k y.n)) (.int .i64 (min x.lo y.lo)) (.int .i64 (max x.hi y.hi)) (.int .i64 (up (x.p ||| y.p)))) N (up x.s) x.k x.n x.lo x.hi (up x.p) ∧ Br (st6 v4 (N + 1 + 1) (.int .i64 (up (x.s ||| y.s))) (.bool (joinI x.k x.n y.k y.n)) (.int .i64 (joinN x.k x.n y.k y.n)) (.int .i64 (min x.lo y.lo)) (.int .i64 (max x.hi y.hi)) (.int .i64 (up (x.p ||| y.p)))) (N + 1) (up y.s) y.k y.n y.lo y.hi (up y.p) ∧ Rw (st6 v4 (N + 1 + 1) (.int .i64 (up (x.s ||| y.s))) (.bool (joinI x.k x.n y.k y.n)) (.int .i64 (joinN x.k x.n y.k y.n)) (.int .i64 (min x.lo y.lo)) (.int .i64 (max x.hi y.hi)) (.int .i64 (up (x.p ||| y.p)))) (N + 1 + 1) ∧ Below N w (st6 v4 (N + 1 + 1) (.int .i64 (up (x.s ||| y.s))) (.bool (joinI x.k x.n y.k y.n)) (.int .i64 (joinN x.k x.n y.k y.n)) (.int .i64 (min x.lo y.lo)) (.int .i64 (max x.hi y.hi)) (.int .i64 (up (x.p ||| y.p)))) := ⟨zz.1.put (by omega) _ _ _ _ _ _, zz.2.1.put (by omega) _ _ _ _ _ _, zz.2.2.1.put (up (x.s ||| y.s)) (joinI x.k x.n y.k y.n) (joinN x.k x.n y.k y.n) (min x.lo y.lo) (max x.hi y.hi) (up (x.p ||| y.p)), st6_below zz.2.2.2 _ (by omega) _ _ _ _ _ _⟩
  refine hK.out _ _ ⟨zi.1.c0, zi.1.c1, zi.1.c2, zi.1.c3, zi.1.c4, zi.1.c5, zi.2.1.c0, zi.2.1.c1, zi.2.1.c2, zi.2.1.c3, zi.2.1.c4, zi.2.1.c5, zi⟩ (fun _ => ?_)
  clear hK K zc0 zf0 zc1 zf1 zc2 zf2 zc3 zf3 zc4 zf4 zc5 zf5
  refine wpAnyH_done (by kernel_rfl) ?_ _
  clear hS0 HCL hHeld g1 g2 g3 g4
  have c0 := zw.c0
  have c1 := zw.c1
  have c2 := zw.c2
  have c3 := zw.c3
  have c4 := zw.c4
  have c5 := zw.c5
  have hB := zi.2.2.2
  clear zi zw zb zf zz
  go_wp2_with fail
  refine bodyPost_ret (by simp [results, Try.results44, go_sem, *]; try rfl) rfl ⟨?_, by rw [← HN.out]; exact hB⟩
  rfl
end Go.Proofs.Ytmhicllhjiglkaa
namespace Go.Proofs.Ytmhicllhjiglkaa
open Go.RowKit
set_option maxRecDepth 100000 in
set_option maxHeartbeats 16000000 in
theorem widen_V (x y : V) (w : World) (hx : x.p &&& 3 = x.p) (hy : y.p &&& 3 = y.p) : Calls Try.prog 46 #[.agg #[.int .i64 (up x.s), .bool x.k, .int .i64 x.n, .int .i64 x.lo, .int .i64 x.hi, .int .i64 (up x.p)], .agg #[.int .i64 (up y.s), .bool y.k, .int .i64 y.n, .int .i64 y.lo, .int .i64 y.hi, .int .i64 (up y.p)]] w fun e w' => e = .returned (.agg #[.int .i64 (up (widenV x y).s), .bool (widenV x y).k, .int .i64 (widenV x y).n, .int .i64 (widenV x y).lo, .int .i64 (widenV x y).hi, .int .i64 (up (widenV x y).p)]) ∧ Below w.heap.size w w' := by
  have c1 := fun w => join_V x y w hx hy
  have HR : Hid (widenV x y = ⟨(joinV x y).s, (joinV x y).k, (joinV x y).n, if (joinV x y).lo < x.lo then -9223372036854775808 else x.lo, if x.hi < (joinV x y).hi then 9223372036854775807 else x.hi, (joinV x y).p⟩) := rfl
  generalize widenV x y = r at *
  generalize joinV x y = j at *
  clear hx hy
  have c2 := fun w => nwiden_any x.lo x.hi j.lo j.hi w
  have HQ : Hid (r.s = j.s ∧ r.k = j.k ∧ r.n = j.n ∧ r.lo = (if j.lo < x.lo then -9223372036854775808 else x.lo) ∧ r.hi = (if x.hi < j.hi then 9223372036854775807 else x.hi) ∧ r.p = j.p) := by rw [HR.out]; exact ⟨rfl, rfl, rfl, rfl, rfl, rfl⟩
  generalize (if j.lo < x.lo then -9223372036854775808 else x.lo : Int) = wl at *
  generalize (if x.hi < j.hi then 9223372036854775807 else x.hi : Int) = wh at *
  have x0 : Br (((w.alloc (.cells #[.int .i64 (up x.s), .bool x.k, .int .i64 x.n, .int .i64 x.lo, .int .i64 x.hi, .int .i64 (up x.p)] 53)).alloc (.cells #[.int .i64 (up y.s), .bool y.k, .int .i64 y.n, .int .i64 y.lo, .int .i64 y.hi, .int .i64 (up y.p)] 53)).alloc (.cells #[.int .i64 0, .bool false, .int .i64 0, .int .i64 0, .int .i64 0, .int .i64 0] 53)) (w.heap.size) (up x.s) x.k x.n x.lo x.hi (up x.p) := (((Br.new w (up x.s) x.k x.n x.lo x.hi (up x.p) 53)).keep ((Below.refl _ _).alloc (Nat.le_refl _) _)).keep ((Below.refl _ _).alloc (Nat.le_refl _) _)
  have x1 : Br (((w.alloc (.cells #[.int .i64 (up x.s), .bool x.k, .int .i64 x.n, .int .i64 x.lo, .int .i64 x.hi, .int .i64 (up x.p)] 53)).alloc (.cells #[.int .i64 (up y.s), .bool y.k, .int .i64 y.n, .int .i64 y.lo, .int .i64 y.hi, .int .i64 (up y.p)] 53)).alloc (.cells #[.int .i64 0, .bool false, .int .i64 0, .int .i64 0, .int .i64 0, .int .i64 0] 53)) (w.heap.size + 1) (up y.s) y.k y.n y.lo y.hi (up y.p) := ((by simpa using Br.new (w.alloc (.cells #[.int .i64 (up x.s), .bool x.k, .int .i64 x.n, .int .i64 x.lo, .int .i64 x.hi, .int .i64 (up x.p)] 53)) (up y.s) y.k y.n y.lo y.hi (up y.p) 53 : Br ((w.alloc (.cells #[.int .i64 (up x.s), .bool x.k, .int .i64 x.n, .int .i64 x.lo, .int .i64 x.hi, .int .i64 (up x.p)] 53)).alloc (.cells #[.int .i64 (up y.s), .bool y.k, .int .i64 y.n, .int .i64 y.lo, .int .i64 y.hi, .int .i64 (up y.p)] 53)) (w.heap.size + 1) (up y.s) y.k y.n y.lo y.hi (up y.p))).keep ((Below.refl _ _).alloc (Nat.le_refl _) _)
  have x2 : Br (((w.alloc (.cells #[.int .i64 (up x.s), .bool x.k, .int .i64 x.n, .int .i64 x.lo, .int .i64 x.hi, .int .i64 (up x.p)] 53)).alloc (.cells #[.int .i64 (up y.s), .bool y.k, .int .i64 y.n, .int .i64 y.lo, .int .i64 y.hi, .int .i64 (up y.p)] 53)).alloc (.cells #[.int .i64 0, .bool false, .int .i64 0, .int .i64 0, .int .i64 0, .int .i64 0] 53)) (w.heap.size + 1 + 1) 0 false 0 0 0 0 := (by simpa using Br.new ((w.alloc (.cells #[.int .i64 (up x.s), .bool x.k, .int .i64 x.n, .int .i64 x.lo, .int .i64 x.hi, .int .i64 (up x.p)] 53)).alloc (.cells #[.int .i64 (up y.s), .bool y.k, .int .i64 y.n, .int .i64 y.lo, .int .i64 y.hi, .int .i64 (up y.p)] 53)) 0 false 0 0 0 0 53 : Br (((w.alloc (.cells #[.int .i64 (up x.s), .bool x.k, .int .i64 x.n, .int .i64 x.lo, .int .i64 x.hi, .int .i64 (up x.p)] 53)).alloc (.cells #[.int .i64 (up y.s), .bool y.k, .int .i64 y.n, .int .i64 y.lo, .int .i64 y.hi, .int .i64 (up y.p)] 53)).alloc (.cells #[.int .i64 0, .bool false, .int .i64 0, .int .i64 0, .int .i64 0, .int .i64 0] 53)) (w.heap.size + 1 + 1) 0 false 0 0 0 0)
  have xf : Fz (((w.alloc (.cells #[.int .i64 (up x.s), .bool x.k, .int .i64 x.n, .int .i64 x.lo, .int .i64 x.hi, .int .i64 (up x.p)] 53)).alloc (.cells #[.int .i64 (up y.s), .bool y.k, .int .i64 y.n, .int .i64 y.lo, .int .i64 y.hi, .int .i64 (up y.p)] 53)).alloc (.cells #[.int .i64 0, .bool false, .int .i64 0, .int .i64 0, .int .i64 0, .int .i64 0] 53)) (w.heap.size + 1 + 1) := by simpa using Fz.new ((w.alloc (.cells #[.int .i64 (up x.s), .bool x.k, .int .i64 x.n, .int .i64 x.lo, .int .i64 x.hi, .int .i64 (up x.p)] 53)).alloc (.cells #[.int .i64 (up y.s), .bool y.k, .int .i64 y.n, .int .i64 y.lo, .int .i64 y.hi, .int .i64 (up y.p)] 53)) 0 false 0 0 0 0 53
  have xb : Below w.heap.size w (((w.alloc (.cells #[.int .i64 (up x.s), .bool x.k, .int .i64 x.n, .int .i64 x.lo, .int .i64 x.hi, .int .i64 (up x.p)] 53)).alloc (.cells #[.int .i64 (up y.s), .bool y.k, .int .i64 y.n, .int .i64 y.lo, .int .i64 y.hi, .int .i64 (up y.p)] 53)).alloc (.cells #[.int .i64 0, .bool false, .int .i64 0, .int .i64 0, .int .i64 0, .int .i64 0] 53)) := (by repeat (first | exact Below.refl _ _ | (refine Below.drew ?_) | (refine below_drewN ?_ _) | (refine Below.setCell ?_ (by first | omega | (simp; done) | (simp; omega)) _) | (refine Below.alloc ?_ (by first | omega | (simp; done) | (simp; omega)) _) | (refine Below.trans ?_ (Below.mono (by assumption) (by first | omega | (simp; done) | (simp; omega))))))
  go_enter Try.func46, Try.ntmps46
  go_upto_region 1 with fail
  go_name_world W hW
  rw [hW] at x0 x1 x2 xf xb
  clear hW
  obtain ⟨N, hN⟩ : ∃ N, N = w.heap.size := ⟨_, rfl⟩
  rw [← hN] at x0 x1 x2 xf xb ⊢
  have HN : Hid (N = w.heap.size) := hN
  clear hN
  have HA := hide (And.intro x0 (And.intro x1 (And.intro x2 (And.intro xf xb))))
  clear x0 x1 x2 xf xb
  have a0 := HA.out.1.c0
  have a1 := HA.out.1.c1
  have a2 := HA.out.1.c2
  have a3 := HA.out.1.c3
  have a4 := HA.out.1.c4
  have a5 := HA.out.1.c5
  have b0 := HA.out.2.1.c0
  have b1 := HA.out.2.1.c1
  have b2 := HA.out.2.1.c2
  have b3 := HA.out.2.1.c3
  have b4 := HA.out.2.1.c4
  have b5 := HA.out.2.1.c5
  go_upto_region 2 with (go_at_call 44; refine (c1 _).mono ?_; rintro e wK ⟨rfl, hK⟩)
  go_name_world W2 hW2
  have HB : Hid (Br W2 N (up x.s) x.k x.n x.lo x.hi (up x.p) ∧ Br W2 (N + 1 + 1) 0 false 0 0 0 0 ∧ Fz W2 (N + 1 + 1) ∧ Br W2 wK.heap.size (up j.s) j.k j.n j.lo j.hi (up j.p) ∧ Fz W2 wK.heap.size ∧ Below N w W2) := by
    rw [← hW2]
    have k0 := HA.out.1.keep hK
    have k2 := HA.out.2.2.1.keep hK
    have k3 := HA.out.2.2.2.1.keep HA.out.2.2.1.lt hK
    have k4 := HA.out.2.2.2.2.trans (hK.mono (Nat.le_of_lt HA.out.1.lt))
    exact ⟨k0.keep ((Below.refl _ _).alloc (Nat.le_refl _) _), k2.keep ((Below.refl _ _).alloc (Nat.le_refl _) _), k3.keep k2.lt ((Below.refl _ _).alloc (Nat.le_refl _) _), Br.new _ _ _ _ _ _ _ _, Fz.new _ _ _ _ _ _ _ _, k4.alloc (Nat.le_of_lt k0.lt) _⟩
  have o1 : (N + 1 + 1) < wK.heap.size := (HA.out.2.2.1.keep hK).lt
  clear hW2 hK HA c1 a0 a1 a2 a3 a4 a5 b0 b1 b2 b3 b4 b5
  generalize wK.heap.size = T at *
  have a0 := HB.out.1.c0
  have a1 := HB.out.1.c1
  have a2 := HB.out.1.c2
  have a3 := HB.out.1.c3
  have a4 := HB.out.1.c4
  have a5 := HB.out.1.c5
  have b0 := HB.out.2.2.2.1.c0
  have b1 := HB.out.2.2.2.1.c1
  have b2 := HB.out.2.2.2.1.c2
  have b3 := HB.out.2.2.2.1.c3
  have b4 := HB.out.2.2.2.1.c4
  have b5 := HB.out.2.2.2.1.c5
  go_upto_region 3 with (go_at_call 94; refine (c2 _).mono ?_; rintro e wK ⟨rfl, hK⟩; clear a0 a1 a2 a3 a4 a5 b0 b1 b2 b3 b4 b5; have K := And.intro (HB.out.2.1.keep hK) (And.intro (HB.out.2.2.1.keep HB.out.2.1.lt hK) (And.intro (HB.out.2.2.2.1.keep hK) (And.intro (HB.out.2.2.2.2.1.keep HB.out.2.2.2.1.lt hK) (HB.out.2.2.2.2.2.trans (hK.mono (Nat.le_of_lt HB.out.1.lt)))))); have a0 := K.2.2.1.c0; have a1 := K.2.2.1.c1; have a2 := K.2.2.1.c2; have a3 := K.2.2.1.c3; have a4 := K.2.2.1.c4; have a5 := K.2.2.1.c5; have f0 := K.2.2.2.1.f0; have f1 := K.2.2.2.1.f1; have f2 := K.2.2.2.1.f2; have f3 := K.2.2.2.1.f3; have f4 := K.2.2.2.1.f4; have f5 := K.2.2.2.1.f5)
  go_name_world W3 hW3
  have HC : Hid (Br W3 (N + 1 + 1) 0 false 0 0 0 0 ∧ Fz W3 (N + 1 + 1) ∧ Br W3 T (up j.s) j.k j.n wl wh (up j.p) ∧ Below N w W3) := by
    rw [← hW3]
    exact ⟨K.1.two (by omega) _ _ _ _, K.2.1.two _ _ _ _, K.2.2.1.span _ _, two_below K.2.2.2.2 T _ _ (by omega) _ _⟩
  clear hW3 hK K HB c2 a0 a1 a2 a3 a4 a5 f0 f1 f2 f3 f4 f5
  have a0 := HC.out.1.c0
  have a1 := HC.out.1.c1
  have a2 := HC.out.1.c2
  have a3 := HC.out.1.c3
  have a4 := HC.out.1.c4
  have a5 := HC.out.1.c5
  have f0 := HC.out.2.1.f0
  have f1 := HC.out.2.1.f1
  have f2 := HC.out.2.1.f2
  have f3 := HC.out.2.1.f3
  have f4 := HC.out.2.1.f4
  have f5 := HC.out.2.1.f5
  have b0 := HC.out.2.2.1.c0
  have b1 := HC.out.2.2.1.c1
  have b2 := HC.out.2.2.1.c2
  have b3 := HC.out.2.2.1.c3
  have b4 := HC.out.2.2.1.c4
  have b5 := HC.out.2.2.1.c5
  have hB := HC.out.2.2.2
  go_wp2_with fail
  have zw := HC.out.1.wrote (up j.s) j.k j.n wl wh (up j.p)
  have hZ := st6_below HC.out.2.2.2 (N + 1 + 1) (Nat.le_trans (Nat.le_succ _) (Nat.le_succ _)) (.int .i64 (up j.s)) (.bool j.k) (.int .i64 j.n) (.int .i64 wl) (.int .i64 wh) (.int .i64 (up j.p))
  clear HC hB a0 a1 a2 a3 a4 a5 b0 b1 b2 b3 b4 b5 f0 f1 f2 f3 f4 f5
  have a0 := zw.c0
  have a1 := zw.c1
  have a2 := zw.c2
  have a3 := zw.c3
  have a4 := zw.c4
  have a5 := zw.c5
  clear zw
  refine bodyPost_ret (by simp [results, Try.results46, go_sem, *]; try rfl) rfl ⟨?_, by rw [← HN.out]; exact hZ⟩
  rw [HQ.out.1, HQ.out.2.1, HQ.out.2.2.1, HQ.out.2.2.2.1, HQ.out.2.2.2.2.1, HQ.out.2.2.2.2.2]
end Go.Proofs.Ytmhicllhjiglkaa
