import Derived.Test.YtmhicllhjiglkaaG18
import Derived.Test.YtmhicllhjiglkaaG20
import Derived.Test.YtmhicllhjiglkaaG10
import Derived.Test.YtmhicllhjiglkaaG17
import Derived.Test.YtmhicllhjiglkaaG08
import Derived.Test.YtmhicllhjiglkaaG11
import Derived.Deep.LoopGhost
import Derived.Deep.RegionHeld3
namespace Go.Proofs.Ytmhicllhjiglkaa
open Go.RowKit
/-- what x holds, and how often it may still change -/
structure Gx (n ch : Nat) (w0 w : World) (k6 : Nat) (qx : Bool) (vx sx : Value) (x : VS) : Prop where
  bx : Bs w k6 qx vx sx
  fx : Fs w k6
  rx : Rs w (.agg #[.bool qx, vx, sx]) x.raw
  ox : W9 n x
  pot : ch + potS n x ≤ 1 + n * 15
  bel : Below w0.heap.size w0 w
  le : w0.heap.size ≤ k6
theorem Gx.keep {n ch : Nat} {w0 w w' : World} {k6 : Nat} {qx : Bool} {vx sx : Value} {x : VS} (h : Gx n ch w0 w k6 qx vx sx x) (hb : Below w.heap.size w w') : Gx n ch w0 w' k6 qx vx sx x :=
  ⟨h.bx.keep hb, h.fx.of (hb.block _ h.bx.lt), h.rx.keep hb, h.ox, h.pot, h.bel.trans (hb.mono h.bel.size), h.le⟩
/-- what c is so far -/
structure O9 (n : Nat) (r : Bool) (us : List V) (ss : List (List Int)) : Prop where
  len : ss.length = us.length
  le : us.length ≤ n
  ok : ∀ u ∈ us, u.ok
  up : ∀ l ∈ ss, UpP l ∧ ∀ y ∈ l, (0 : Int) ≤ y ∧ y < 9
  nr : r = false → us = []
theorem ofV_ok9 (i : Nat) (hi : i < 40) : (ofV i).ok := by
  refine ⟨?_, ?_, ?_, fun e => (by cases e), ?_, ?_⟩
  · unfold ofV sg; dsimp only; split
    · decide
    · split <;> decide
  · unfold ofV pr; dsimp only; split <;> decide
  · unfold ofV pr; dsimp only; split <;> decide
  · unfold Sp ofV; dsimp only; omega
  · unfold i64 ofV; dsimp only; omega
theorem O9.app {n : Nat} {us : List V} {ss : List (List Int)} (h : O9 n true us ss) (hn : us.length < n) (i : Nat) (hi : i < 40) : O9 n true (us ++ [ofV i]) (ss ++ [[((i % 9 : Nat) : Int)]]) := by
  refine ⟨by simp [h.len], by simp; omega, fun u hu => ?_, fun l hl => ?_, fun e => by cases e⟩
  · rcases List.mem_append.1 hu with hu | hu
    · exact h.ok u hu
    · simp at hu; subst hu; exact ofV_ok9 i hi
  · rcases List.mem_append.1 hl with hl | hl
    · exact h.up l hl
    · simp at hl; subst hl; exact ⟨by simp [UpP], fun y hy => by simp at hy; subst hy; omega⟩
theorem O9.w9 {n : Nat} {r : Bool} {us : List V} {ss : List (List Int)} (h : O9 n r us ss) (hn : n ≤ 3) (hf : r = true → us.length = n) : W9 n ⟨r, us, ss⟩ := by
  refine ⟨⟨h.len, by have := h.le; dsimp only; omega, h.ok, fun l hl => ⟨(h.up l hl).1, ?_⟩, h.nr⟩, hf, fun l hl => (h.up l hl).2⟩
  have := up_len l 0 (h.up l hl).1 (h.up l hl).2
  omega
theorem SOk.o9 {s : S} {us : List V} {n : Nat} (h : SOk s us n 9) : O9 n s.r us s.ss := ⟨h.len, h.le, h.ok, fun l hl => ⟨(h.up l hl).1, (h.up l hl).2.1⟩, h.nr⟩
theorem to_J9 {w : World} {v : Value} {x : VS} {n : Nat} (h : Rs w v x.raw) (k : VOk n x) (hn : n ≤ 5000) : Calls Try.prog 11 #[v] w fun e w' => ∃ v', e = .returned v' ∧ Below w.heap.size w w' ∧ Rs w' v' x.raw := by
  obtain ⟨a, c, b, d, rfl, h1, h2, -⟩ := h
  have i3 := k.le
  have i1 := k.len
  refine (to_S a b c d x.raw.r x.raw.vs x.raw.ss w h1 h2 (by unfold VS.raw; dsimp only; rw [List.length_map]; omega) (by unfold VS.raw; dsimp only; omega) (k.inner hn)).mono ?_
  rintro e w' ⟨v', rfl, hR, hB⟩
  exact ⟨v', rfl, hB, hR.rs⟩
theorem widenR9 {w : World} {v1 v2 : Value} {x y : VS} {n m : Nat} (h1 : Rs w v1 x.raw) (h2 : Rs w v2 y.raw) (k1 : VOk n x) (k2 : VOk m y) (hn : n ≤ 5000) (hm : m ≤ 5000) :
    Calls Try.prog 16 #[v1, v2] w fun e w' => ∃ v, e = .returned v ∧ Below w.heap.size w w' ∧ Rn w' w.heap.size v (togV widenV x y).raw := by
  refine (widen_S h1 h2 k1 k2 hn hm).mono ?_
  rintro e w' ⟨v, rfl, hR, hB⟩
  exact ⟨v, rfl, hB, hR⟩
theorem equalE9 {w : World} {v1 v2 : Value} {x y : VS} {n m : Nat} (h1 : Rs w v1 x.raw) (h2 : Rs w v2 y.raw) (k1 : VOk n x) (k2 : VOk m y) (hn : n ≤ 5000) (hm : m ≤ 5000) :
    Calls Try.prog 20 #[v1, v2] w fun e w' => ∃ bv, e = .returned (.bool bv) ∧ Below w.heap.size w w' ∧ (bv = true ↔ x.raw = y.raw) := by
  have i3 := k1.le
  have i1 := k1.len
  have i4 := k2.le
  have i2 := k2.len
  exact equal_S h1 h2 (by unfold VS.raw; dsimp only; rw [List.length_map]; omega) (by unfold VS.raw; dsimp only; rw [List.length_map]; omega) (by unfold VS.raw; dsimp only; omega) (by unfold VS.raw; dsimp only; omega) (fun l hl => by have := (k1.up l hl).2; omega) (fun l hl => by have := (k2.up l hl).2; omega)
theorem Rn.form7 {w : World} {N : Nat} {v : Value} {s : S} (h : Rn w N v s) : ∃ (qj : Bool) (ja : Option Addr) (nj jc : Nat) (jb : Option Addr) (mj jd : Nat), v = .agg #[.bool qj, .slice ja nj jc, .slice jb mj jd] := by
  obtain ⟨a, c, b, d, rfl, -⟩ := h
  exact ⟨_, _, _, _, _, _, _, rfl⟩
theorem Rp.keep7 {w w' : World} {L : List Nat} {v : Value} {s : S} (h : Rp w L v s) (hb : Below w.heap.size w w') : Rp w' L v s := h.of (fun _ t => .inl t) (fun k _ hk => hb.block k hk)
theorem Rp.put7 {w : World} {L : List Nat} {k : Nat} {v : Value} {s : S} (h : Rp w L v s) (hk : k ∈ L) (r : Bool) (va sa : Value) : Rp (st3 w k r va sa) L v s := h.of (fun _ t => .inl t) (fun j hj _ => st3_block w k r va sa j (fun e => hj (e ▸ hk)))
/-- x, c and y -/
structure Hy (n ch : Nat) (w0 w : World) (k6 k9 k10 : Nat) (qx : Bool) (vx sx : Value) (r : Bool) (va sa : Value) (qj : Bool) (vj sj : Value) (x c y : VS) : Prop where
  g : Gx n ch w0 w k6 qx vx sx x
  b9 : Bs w k9 r va sa
  rc : Rs w (.agg #[.bool r, va, sa]) c.raw
  b10 : Bs w k10 qj vj sj
  rp : Rp w [k6, k10] (.agg #[.bool qj, vj, sj]) y.raw
theorem Hy.keep {n ch : Nat} {w0 w w' : World} {k6 k9 k10 : Nat} {qx : Bool} {vx sx : Value} {r : Bool} {va sa : Value} {qj : Bool} {vj sj : Value} {x c y : VS} (h : Hy n ch w0 w k6 k9 k10 qx vx sx r va sa qj vj sj x c y) (hb : Below w.heap.size w w') : Hy n ch w0 w' k6 k9 k10 qx vx sx r va sa qj vj sj x c y :=
  ⟨h.g.keep hb, h.b9.keep hb, h.rc.keep hb, h.b10.keep hb, h.rp.keep7 hb⟩
theorem Hy.next {n ch ch' : Nat} {w0 w : World} {k6 k9 k10 : Nat} {qx : Bool} {vx sx : Value} {r : Bool} {va sa : Value} {qj : Bool} {vj sj : Value} {x c y : VS} (h : Hy n ch w0 w k6 k9 k10 qx vx sx r va sa qj vj sj x c y) (hy : W9 n y) (hp : ch' + potS n y ≤ 1 + n * 15) : Gx n ch' w0 (st3 w k6 qj vj sj) k6 qj vj sj y :=
  ⟨h.g.bx.put3 _ _ _, h.g.fx.put3 _ _ _, (h.rp.put7 (by simp) _ _ _).rs, hy, hp, st3_below h.g.bel k6 h.g.le _ _ _, h.g.le⟩
set_option maxRecDepth 100000 in
set_option maxHeartbeats 16000000 in
theorem stateWidens_walk (n0 : Int) (a : Option Addr) (c : Nat) (ls : List S) (w : World) (hl : RSt w a ls) :
    Calls Try.prog 9 #[.int .i64 n0, .slice a ls.length c] w fun e w' => e = .returned (.bool true) ∧ Below w.heap.size w w' := by
  have HL := hide hl
  clear hl
  have HZ : 0 ≤ wrap64 ((IntKind.u64.wrap n0).tmod 4) ∧ wrap64 ((IntKind.u64.wrap n0).tmod 4) < 4 := site_ok n0 4 (by omega) (by omega)
  go_enter Try.func9, Try.ntmps9
  go_upto_region 2 with fail
  generalize wrap64 ((IntKind.u64.wrap n0).tmod 4) = z at *
  obtain ⟨n, rfl⟩ : ∃ n : Nat, z = n := ⟨z.toNat, by omega⟩
  have hn3 : (n : Int) ≤ 3 := by omega
  have HN3 : Hid (n ≤ 3) := hide (by omega)
  clear HZ
  go_upto_region 3 with (go_at_call 37; refine (none_S _).mono ?_; rintro e wN ⟨rfl, hbN⟩; replace hbN := hide hbN)
  go_name_world W hW
  obtain ⟨k6, hk6⟩ : ∃ z9, z9 = wN.heap.size := ⟨_, rfl⟩
  rw [← hk6]
  have G0 : Hid (Gx n 0 w W k6 false (.slice none 0 0) (.slice none 0 0) ⟨false, [], []⟩) := by
    obtain ⟨B, F, u⟩ := box1 wN _ _ _ _ W hW
    rw [← hk6] at B F
    exact hide ⟨B, F, (rn_none W 0).rs, W9.none n, by unfold potS; simp, hbN.out.trans (u.mono hbN.out.size), by rw [hk6]; exact hbN.out.size⟩
  clear hW hbN hk6
  go_wp2_with fail
  go_loopw [7, 8] (fun s7 s8 wr => ∃ (ch i : Nat) (qx : Bool) (vx sx : Value) (x : VS), s7 = .int .i64 ch ∧ s8 = .int .i64 i ∧ i ≤ ls.length ∧ i ≤ 40 ∧ ch ≤ 46 ∧ Hid (Gx n ch w wr k6 qx vx sx x)) (fun _ s8 _ => 40 - (intOf s8).toNat)
  case atStart => exact ⟨0, 0, _, _, _, _, rfl, rfl, Nat.zero_le _, by omega, by omega, G0.out⟩
  case round =>
    obtain ⟨ch, i, qx, vx, sx, x, rfl, rfl, hi, hi40, hch, h4⟩ := hrel
    clear G0
    have hch2 : (ch : Int) ≤ 46 := by omega
    have hi402 : (i : Int) ≤ 40 := by omega
    by_cases hi1 : i < ls.length
    · have hi12 : (i : Int) < ls.length := by omega
      by_cases hi2 : i < 40
      · have hi22 : (i : Int) < 40 := by omega
        obtain ⟨s, hsi⟩ : ∃ s, ls[i]? = some s := ⟨_, List.getElem?_eq_getElem hi1⟩
        obtain ⟨b1, o1, va0, sa0, rfl, c0, c1, c2, hRs, hri⟩ := HL.out i s hsi
        obtain ⟨a2, cc2, b2, dd2, hv, e1, e2, -⟩ := hRs
        simp at hv
        obtain ⟨rfl, rfl⟩ := hv
        have cF := fix_own a2 b2 cc2 dd2 s.r s.vs s.ss n 9 wr (e1.keep h4.out.bel) (e2.keep h4.out.bel) hri (by omega) (by omega) (by omega)
        have y0 := (h4.out.bel.cell (p := ⟨b1, o1 + i * 3, none⟩) (World.block_lt_of_cell? w _ c0)).trans c0
        have y1 := (h4.out.bel.cell (p := ⟨b1, o1 + i * 3 + 1, none⟩) (World.block_lt_of_cell? w _ c1)).trans c1
        have y2 := (h4.out.bel.cell (p := ⟨b1, o1 + i * 3 + 2, none⟩) (World.block_lt_of_cell? w _ c2)).trans c2
        clear hsi c0 c1 c2 e1 e2 hri
        go_upto_block 2 with (go_at_call 38; refine cF.mono ?_; rintro e wF ⟨v, rfl, hB, hO⟩; unfold Own9 at hO; obtain ⟨s1, us, va, sa, es, rfl, hLw, hSok⟩ := hO; obtain ⟨a7, c7, rfl, -, -⟩ := hLw.ov.slice; obtain ⟨a8, c8, rfl, -, -⟩ := hLw.os.slice; replace hLw := hide hLw; replace hSok := hide hSok; replace hB := hide hB; clear cF y0 y1 y2)
        go_name_world W8 hW8
        obtain ⟨k9, hk9⟩ : ∃ z9, z9 = wF.heap.size := ⟨_, rfl⟩
        rw [← hk9]
        have I0 : Hid (Below wr.heap.size wr W8 ∧ Lq W8 wr.heap.size k9 ⟨s1.r, us.map V.raw, s1.ss⟩ (.slice a7 s1.vs.length c7) (.slice a8 es.length c8) es ∧ O9 n s1.r us s1.ss) := by
          obtain ⟨B, F, u⟩ := box1 wF _ _ _ _ W8 hW8
          rw [← hk9] at B F
          have t := hLw.out.of u
          have tg : Tg W8 k9 := by rw [← hW8, hk9]; exact Tg.new _ _
          have t1 := (congrArg (fun q => OwV W8 wr.heap.size 48 (.slice a7 s1.vs.length c7) q) hSok.out.vs).mp t.ov
          exact hide ⟨hB.out.trans (u.mono hB.out.size), ⟨B, F, tg, t1, t.os, t.inn, by rw [hk9]; exact hB.out.size⟩, hSok.out.o9⟩
        generalize (Value.slice a7 s1.vs.length c7) = va at *
        generalize (Value.slice a8 es.length c8) = sa at *
        obtain ⟨r, hr⟩ : ∃ z9, z9 = s1.r := ⟨_, rfl⟩
        obtain ⟨ss, hss⟩ : ∃ z9, z9 = s1.ss := ⟨_, rfl⟩
        rw [← hr, ← hss] at I0
        try rw [← hr]
        clear hW8 hLw hSok hB hk9 hr hss
        obtain ⟨B, hBd⟩ : ∃ z9, z9 = wr.heap.size := ⟨_, rfl⟩
        rw [← hBd] at I0
        obtain ⟨wo, hwo⟩ : ∃ z9, z9 = wr := ⟨_, rfl⟩
        rw [← hwo] at I0 h4 hBd
        clear hwo
        have HBd := hide hBd
        clear hBd
        go_cut [] (fun wx => ∃ (us : List V) (ss : List (List Int)) (va sa : Value) (es : List Value), Hid (Below B wo wx ∧ Lq wx B k9 ⟨r, us.map V.raw, ss⟩ va sa es ∧ O9 n r us ss ∧ (r = true → us.length = n)))
        case first =>
          go_wp2_with fail
          go_loopg [] n (fun g wq => ∃ (us : List V) (ss : List (List Int)) (va sa : Value) (es : List Value), n ≤ g + us.length ∧ Hid (Below B wo wq ∧ Lq wq B k9 ⟨r, us.map V.raw, ss⟩ va sa es ∧ O9 n r us ss))
          case atStart => exact ⟨_, _, _, _, _, Nat.le_add_right _ _, I0.out⟩
          case round =>
            clear I0
            obtain ⟨us, ss, va, sa, es, hg, h5⟩ := hrel
            have hul := h5.out.2.2.le
            have HG := hide (And.intro hg hul)
            clear hg hul
            obtain ⟨a7, c7, hva, -, -⟩ := h5.out.2.1.ov.slice
            rw [List.length_map] at hva
            subst hva
            have e0 := h5.out.2.1.bx.c0
            have e1 := h5.out.2.1.bx.c1
            by_cases hlt : us.length < n
            · have hlt2 : (us.length : Int) < n := by omega
              cases r with
              | false =>
                go_wp2_with fail
                go_meet
                case rel => exact ⟨_, _, _, _, _, h5.out.1, h5.out.2.1, h5.out.2.2, fun e => by cases e⟩
              | true =>
                have hul2 : (us.length : Int) ≤ 3 := by omega
                go_upto_region 9 with fail
                go_name_world W9 hW9
                rw [hW9] at h5
                clear hW9 e0 e1
                generalize (Value.slice a7 us.length c7) = va at *
                obtain ⟨pv, hpv⟩ : ∃ z9, z9 = us.map V.raw := ⟨_, rfl⟩
                rw [← hpv] at h5
                have hlv : pv.length ≤ 1000000 := by rw [hpv, List.length_map]; omega
                have cO := fun w => ofr_V (i : Int) w (by unfold i64; omega)
                obtain ⟨u, hu⟩ : ∃ z9, z9 = ofV (i : Int) := ⟨_, rfl⟩
                rw [← hu] at cO
                have HU := hide (And.intro hpv hu)
                have HO9 := hide h5.out.2.2
                clear hpv hu
                go_cut [] (fun wx => ∃ va, Hid (Below B wo wx ∧ ∃ tv, tv = pv ++ [u.raw] ∧ Lq wx B k9 ⟨true, tv, ss⟩ va sa es))
                case first =>
                  refine wp_region_held_drew (S := fun w' => True) (by kernel_rfl) trivial (fun hH0 => ?_)
                  obtain ⟨w0, hw0⟩ : ∃ w0, w0 = W9.drew := ⟨_, rfl⟩
                  (try rw [← hw0] at hH0)
                  rw [← hw0]
                  have L0 : Hid (Lq w0 B k9 ⟨true, pv, ss⟩ va sa es) := hw0 ▸ hide (h5.out.2.1.of (Below.refl _ _).drew)
                  have b0 : Hid (Below B wo w0) := hw0 ▸ hide (h5.out.1.drew)
                  clear hw0
                  refine wpAnyH_take (i := 0) (oi := ({ dst := some 41, op := Op.fieldAddr 25 (Operand.tmp 9) 1, type := 0, pos := "law.go:162", after := #[], guard := none } : Oper)) (v := ?_) rfl (by kernel_rfl) (by kernel_rfl) (by kernel_rfl) (fun _ _ _ h => h) (Or.inl ⟨by rfl, ?_⟩) (by assumption) ?_
                  rotate_left
                  · (intro wz hSw; (try dsimp only at hSw); go_simp; try with_reducible rfl)
                  simp only [Act.put, List.setIfInBounds_toArray, List.set_cons_zero, List.set_cons_succ]
                  refine wpAnyH_take (i := 2) (oi := ({ dst := some 43, op := Op.move (Operand.tmp 8), type := 3, pos := "law.go:162", after := #[], guard := none } : Oper)) (v := ?_) rfl (by kernel_rfl) (by kernel_rfl) (by kernel_rfl) (fun _ _ _ h => h) (Or.inl ⟨by rfl, ?_⟩) (by assumption) ?_
                  rotate_left
                  · (intro wz hSw; (try dsimp only at hSw); go_simp; try with_reducible rfl)
                  simp only [Act.put, List.setIfInBounds_toArray, List.set_cons_zero, List.set_cons_succ]
                  refine wpAnyH_ready (rs := [1, 3]) (by kernel_rfl) (by simp) ?_
                  refine AllReadyH.cons (o := ({ dst := some 42, op := Op.load 22 (Operand.tmp 41), type := 22, pos := "law.go:162", after := #[{ on := 0, ground := Ground.data }], guard := none } : Oper)) rfl (fun K hK => ?_) (AllReadyH.cons (o := ({ dst := some 44, op := Op.call { callee := Callee.value (Operand.func 39), args := #[Operand.tmp 43], argTypes := #[2] }, type := 48, pos := "law.go:162", after := #[{ on := 2, ground := Ground.data }], guard := none } : Oper)) rfl (fun K hK => ?_) AllReadyH.nil)
                  · have zc := L0.out.bx.c1
                    go_simp
                    refine hK.out _ _ trivial (fun _ => ?_)
                    clear hK K zc
                    refine wpAnyH_ready (rs := [3]) (by kernel_rfl) (by simp) ?_
                    refine AllReadyH.cons (o := ({ dst := some 44, op := Op.call { callee := Callee.value (Operand.func 39), args := #[Operand.tmp 43], argTypes := #[2] }, type := 48, pos := "law.go:162", after := #[{ on := 2, ground := Ground.data }], guard := none } : Oper)) rfl (fun K hK => ?_) AllReadyH.nil
                    · go_simp
                      go_at_call 39
                      refine (cO _).mono ?_
                      rintro e w1 ⟨rfl, hb1⟩
                      have L1 := hide (L0.out.of hb1)
                      have b1 := hide (b0.out.trans (hb1.mono L0.out.Bl))
                      refine hK.out _ _ trivial (fun hH1 => ?_)
                      clear hK K hb1
                      refine wpAnyH_ready (rs := [4]) (by kernel_rfl) (by simp) ?_
                      refine AllReadyH.cons (o := ({ dst := some 45, op := Op.buildSlice 22 1 #[(0, Operand.tmp 44)], type := 22, pos := "law.go:162", after := #[{ on := 3, ground := Ground.data }], guard := none } : Oper)) rfl (fun K hK => ?_) AllReadyH.nil
                      · go_simp
                        have hb2 : Below w1.heap.size w1 (w1.alloc (.cells #[.int .i64 (up u.s), .bool u.k, .int .i64 u.n, .int .i64 u.lo, .int .i64 u.hi, .int .i64 (up u.p)] 48)) := (Below.refl _ _).alloc (Nat.le_refl _) _
                        have L2 := hide (L1.out.of hb2)
                        have b2 := hide (b1.out.trans (hb2.mono L1.out.Bl))
                        have Y2 := hide (B6.newV w1 u 48)
                        refine hK.out _ _ trivial (fun hH2 => ?_)
                        clear hK K hb2
                        obtain ⟨w2, hw2⟩ : ∃ z9, z9 = (w1.alloc (.cells #[.int .i64 (up u.s), .bool u.k, .int .i64 u.n, .int .i64 u.lo, .int .i64 u.hi, .int .i64 (up u.p)] 48)) := ⟨_, rfl⟩
                        rw [← hw2] at L2 b2 Y2 ⊢
                        clear hw2
                        generalize w1.heap.size = nb at *
                        refine wpAnyH_ready (rs := [5]) (by kernel_rfl) (by simp) ?_
                        refine AllReadyH.cons (o := ({ dst := some 46, op := Op.call { callee := Callee.builtin Builtin.append, args := #[Operand.tmp 42, Operand.tmp 45], argTypes := #[22, 22] }, type := 22, pos := "law.go:162", after := #[{ on := 1, ground := Ground.data }, { on := 4, ground := Ground.data }, { on := 3, ground := Ground.chain }], guard := none } : Oper)) rfl (fun K hK => ?_) AllReadyH.nil
                        · refine wp_appV' w2 B 22 48 Try.underlying22 info48p (.tmp 42) (.tmp 45) rfl _ pv u.raw nb L2.out.ov Y2.out rfl rfl ?_ L2.out.Bl ?_
                          · first | omega | (simp; omega)
                          intro a3 c3 w3 hO3 hg3
                          have b3 := hide (L2.out.belV b2.out hg3)
                          refine hK.out _ _ trivial (fun hH3 => ?_)
                          clear hK K
                          replace hO3 := hide hO3
                          replace hg3 := hide hg3
                          refine wpAnyH_take (i := 6) (oi := ({ dst := some 47, op := Op.fieldAddr 25 (Operand.tmp 9) 1, type := 0, pos := "law.go:162", after := #[{ on := 0, ground := Ground.phase }, { on := 1, ground := Ground.phase }, { on := 2, ground := Ground.phase }, { on := 3, ground := Ground.phase }, { on := 4, ground := Ground.phase }, { on := 5, ground := Ground.phase }], guard := none } : Oper)) (v := ?_) rfl (by kernel_rfl) (by kernel_rfl) (by kernel_rfl) (fun _ _ _ h => h) (Or.inl ⟨by rfl, ?_⟩) (by assumption) ?_
                          rotate_left
                          · (intro wz hSw; (try dsimp only at hSw); go_simp; try with_reducible rfl)
                          simp only [Act.put, List.setIfInBounds_toArray, List.set_cons_zero, List.set_cons_succ]
                          refine wpAnyH_ready (rs := [7]) (by kernel_rfl) (by simp) ?_
                          refine AllReadyH.cons (o := ({ dst := none, op := Op.store 22 (Operand.tmp 47) (Operand.tmp 46), type := 0, pos := "law.go:162", after := #[{ on := 6, ground := Ground.data }, { on := 5, ground := Ground.data }, { on := 5, ground := Ground.chain }, { on := 0, ground := Ground.phase }, { on := 1, ground := Ground.phase }, { on := 2, ground := Ground.phase }, { on := 3, ground := Ground.phase }, { on := 4, ground := Ground.phase }, { on := 5, ground := Ground.phase }], guard := none } : Oper)) rfl (fun K hK => ?_) AllReadyH.nil
                          · have zb := (L2.out.boxV hg3.out).1
                            have zf := (L2.out.boxV hg3.out).2
                            have z0 := zb.c0
                            have z1 := zb.c1
                            have z2 := zb.c2
                            have y0 := zf.f0
                            have y1 := zf.f1
                            have y2 := zf.f2
                            clear zb zf
                            go_simp
                            have L4 := hide (L2.out.appV hO3.out hg3.out)
                            have b4 := hide (b3.out.setCell (p := ⟨k9, 1, none⟩) L2.out.qB (.slice a3 (pv.length + 1) c3))
                            refine hK.out _ _ trivial (fun hH4 => ?_)
                            clear hK K z0 z1 z2 y0 y1 y2
                            obtain ⟨w4, hw4⟩ : ∃ z9, z9 = w3.setCell ⟨k9, 1, none⟩ (.slice a3 (pv.length + 1) c3) := ⟨_, rfl⟩
                            rw [← hw4] at L4 b4  ⊢
                            clear hw4
                            refine wpAnyH_done (by kernel_rfl) ?_ _
                            go_wp2_with fail
                            go_meet
                            case rel => exact ⟨_, b4.out, _, rfl, L4.out⟩
                  · go_simp
                    go_at_call 39
                    refine (cO _).mono ?_
                    rintro e w1 ⟨rfl, hb1⟩
                    have L1 := hide (L0.out.of hb1)
                    have b1 := hide (b0.out.trans (hb1.mono L0.out.Bl))
                    refine hK.out _ _ trivial (fun hH1 => ?_)
                    clear hK K hb1
                    refine wpAnyH_ready (rs := [1, 4]) (by kernel_rfl) (by simp) ?_
                    refine AllReadyH.cons (o := ({ dst := some 42, op := Op.load 22 (Operand.tmp 41), type := 22, pos := "law.go:162", after := #[{ on := 0, ground := Ground.data }], guard := none } : Oper)) rfl (fun K hK => ?_) (AllReadyH.cons (o := ({ dst := some 45, op := Op.buildSlice 22 1 #[(0, Operand.tmp 44)], type := 22, pos := "law.go:162", after := #[{ on := 3, ground := Ground.data }], guard := none } : Oper)) rfl (fun K hK => ?_) AllReadyH.nil)
                    · have zc := L1.out.bx.c1
                      go_simp
                      refine hK.out _ _ trivial (fun _ => ?_)
                      clear hK K zc
                      refine wpAnyH_ready (rs := [4]) (by kernel_rfl) (by simp) ?_
                      refine AllReadyH.cons (o := ({ dst := some 45, op := Op.buildSlice 22 1 #[(0, Operand.tmp 44)], type := 22, pos := "law.go:162", after := #[{ on := 3, ground := Ground.data }], guard := none } : Oper)) rfl (fun K hK => ?_) AllReadyH.nil
                      · go_simp
                        have hb2 : Below w1.heap.size w1 (w1.alloc (.cells #[.int .i64 (up u.s), .bool u.k, .int .i64 u.n, .int .i64 u.lo, .int .i64 u.hi, .int .i64 (up u.p)] 48)) := (Below.refl _ _).alloc (Nat.le_refl _) _
                        have L2 := hide (L1.out.of hb2)
                        have b2 := hide (b1.out.trans (hb2.mono L1.out.Bl))
                        have Y2 := hide (B6.newV w1 u 48)
                        refine hK.out _ _ trivial (fun hH2 => ?_)
                        clear hK K hb2
                        obtain ⟨w2, hw2⟩ : ∃ z9, z9 = (w1.alloc (.cells #[.int .i64 (up u.s), .bool u.k, .int .i64 u.n, .int .i64 u.lo, .int .i64 u.hi, .int .i64 (up u.p)] 48)) := ⟨_, rfl⟩
                        rw [← hw2] at L2 b2 Y2 ⊢
                        clear hw2
                        generalize w1.heap.size = nb at *
                        refine wpAnyH_ready (rs := [5]) (by kernel_rfl) (by simp) ?_
                        refine AllReadyH.cons (o := ({ dst := some 46, op := Op.call { callee := Callee.builtin Builtin.append, args := #[Operand.tmp 42, Operand.tmp 45], argTypes := #[22, 22] }, type := 22, pos := "law.go:162", after := #[{ on := 1, ground := Ground.data }, { on := 4, ground := Ground.data }, { on := 3, ground := Ground.chain }], guard := none } : Oper)) rfl (fun K hK => ?_) AllReadyH.nil
                        · refine wp_appV' w2 B 22 48 Try.underlying22 info48p (.tmp 42) (.tmp 45) rfl _ pv u.raw nb L2.out.ov Y2.out rfl rfl ?_ L2.out.Bl ?_
                          · first | omega | (simp; omega)
                          intro a3 c3 w3 hO3 hg3
                          have b3 := hide (L2.out.belV b2.out hg3)
                          refine hK.out _ _ trivial (fun hH3 => ?_)
                          clear hK K
                          replace hO3 := hide hO3
                          replace hg3 := hide hg3
                          refine wpAnyH_take (i := 6) (oi := ({ dst := some 47, op := Op.fieldAddr 25 (Operand.tmp 9) 1, type := 0, pos := "law.go:162", after := #[{ on := 0, ground := Ground.phase }, { on := 1, ground := Ground.phase }, { on := 2, ground := Ground.phase }, { on := 3, ground := Ground.phase }, { on := 4, ground := Ground.phase }, { on := 5, ground := Ground.phase }], guard := none } : Oper)) (v := ?_) rfl (by kernel_rfl) (by kernel_rfl) (by kernel_rfl) (fun _ _ _ h => h) (Or.inl ⟨by rfl, ?_⟩) (by assumption) ?_
                          rotate_left
                          · (intro wz hSw; (try dsimp only at hSw); go_simp; try with_reducible rfl)
                          simp only [Act.put, List.setIfInBounds_toArray, List.set_cons_zero, List.set_cons_succ]
                          refine wpAnyH_ready (rs := [7]) (by kernel_rfl) (by simp) ?_
                          refine AllReadyH.cons (o := ({ dst := none, op := Op.store 22 (Operand.tmp 47) (Operand.tmp 46), type := 0, pos := "law.go:162", after := #[{ on := 6, ground := Ground.data }, { on := 5, ground := Ground.data }, { on := 5, ground := Ground.chain }, { on := 0, ground := Ground.phase }, { on := 1, ground := Ground.phase }, { on := 2, ground := Ground.phase }, { on := 3, ground := Ground.phase }, { on := 4, ground := Ground.phase }, { on := 5, ground := Ground.phase }], guard := none } : Oper)) rfl (fun K hK => ?_) AllReadyH.nil
                          · have zb := (L2.out.boxV hg3.out).1
                            have zf := (L2.out.boxV hg3.out).2
                            have z0 := zb.c0
                            have z1 := zb.c1
                            have z2 := zb.c2
                            have y0 := zf.f0
                            have y1 := zf.f1
                            have y2 := zf.f2
                            clear zb zf
                            go_simp
                            have L4 := hide (L2.out.appV hO3.out hg3.out)
                            have b4 := hide (b3.out.setCell (p := ⟨k9, 1, none⟩) L2.out.qB (.slice a3 (pv.length + 1) c3))
                            refine hK.out _ _ trivial (fun hH4 => ?_)
                            clear hK K z0 z1 z2 y0 y1 y2
                            obtain ⟨w4, hw4⟩ : ∃ z9, z9 = w3.setCell ⟨k9, 1, none⟩ (.slice a3 (pv.length + 1) c3) := ⟨_, rfl⟩
                            rw [← hw4] at L4 b4  ⊢
                            clear hw4
                            refine wpAnyH_done (by kernel_rfl) ?_ _
                            go_wp2_with fail
                            go_meet
                            case rel => exact ⟨_, b4.out, _, rfl, L4.out⟩
                    · go_simp
                      have hb2 : Below w1.heap.size w1 (w1.alloc (.cells #[.int .i64 (up u.s), .bool u.k, .int .i64 u.n, .int .i64 u.lo, .int .i64 u.hi, .int .i64 (up u.p)] 48)) := (Below.refl _ _).alloc (Nat.le_refl _) _
                      have L2 := hide (L1.out.of hb2)
                      have b2 := hide (b1.out.trans (hb2.mono L1.out.Bl))
                      have Y2 := hide (B6.newV w1 u 48)
                      refine hK.out _ _ trivial (fun hH2 => ?_)
                      clear hK K hb2
                      obtain ⟨w2, hw2⟩ : ∃ z9, z9 = (w1.alloc (.cells #[.int .i64 (up u.s), .bool u.k, .int .i64 u.n, .int .i64 u.lo, .int .i64 u.hi, .int .i64 (up u.p)] 48)) := ⟨_, rfl⟩
                      rw [← hw2] at L2 b2 Y2 ⊢
                      clear hw2
                      generalize w1.heap.size = nb at *
                      refine wpAnyH_ready (rs := [1]) (by kernel_rfl) (by simp) ?_
                      refine AllReadyH.cons (o := ({ dst := some 42, op := Op.load 22 (Operand.tmp 41), type := 22, pos := "law.go:162", after := #[{ on := 0, ground := Ground.data }], guard := none } : Oper)) rfl (fun K hK => ?_) AllReadyH.nil
                      · have zc := L2.out.bx.c1
                        go_simp
                        refine hK.out _ _ trivial (fun _ => ?_)
                        clear hK K zc
                        refine wpAnyH_ready (rs := [5]) (by kernel_rfl) (by simp) ?_
                        refine AllReadyH.cons (o := ({ dst := some 46, op := Op.call { callee := Callee.builtin Builtin.append, args := #[Operand.tmp 42, Operand.tmp 45], argTypes := #[22, 22] }, type := 22, pos := "law.go:162", after := #[{ on := 1, ground := Ground.data }, { on := 4, ground := Ground.data }, { on := 3, ground := Ground.chain }], guard := none } : Oper)) rfl (fun K hK => ?_) AllReadyH.nil
                        · refine wp_appV' w2 B 22 48 Try.underlying22 info48p (.tmp 42) (.tmp 45) rfl _ pv u.raw nb L2.out.ov Y2.out rfl rfl ?_ L2.out.Bl ?_
                          · first | omega | (simp; omega)
                          intro a3 c3 w3 hO3 hg3
                          have b3 := hide (L2.out.belV b2.out hg3)
                          refine hK.out _ _ trivial (fun hH3 => ?_)
                          clear hK K
                          replace hO3 := hide hO3
                          replace hg3 := hide hg3
                          refine wpAnyH_take (i := 6) (oi := ({ dst := some 47, op := Op.fieldAddr 25 (Operand.tmp 9) 1, type := 0, pos := "law.go:162", after := #[{ on := 0, ground := Ground.phase }, { on := 1, ground := Ground.phase }, { on := 2, ground := Ground.phase }, { on := 3, ground := Ground.phase }, { on := 4, ground := Ground.phase }, { on := 5, ground := Ground.phase }], guard := none } : Oper)) (v := ?_) rfl (by kernel_rfl) (by kernel_rfl) (by kernel_rfl) (fun _ _ _ h => h) (Or.inl ⟨by rfl, ?_⟩) (by assumption) ?_
                          rotate_left
                          · (intro wz hSw; (try dsimp only at hSw); go_simp; try with_reducible rfl)
                          simp only [Act.put, List.setIfInBounds_toArray, List.set_cons_zero, List.set_cons_succ]
                          refine wpAnyH_ready (rs := [7]) (by kernel_rfl) (by simp) ?_
                          refine AllReadyH.cons (o := ({ dst := none, op := Op.store 22 (Operand.tmp 47) (Operand.tmp 46), type := 0, pos := "law.go:162", after := #[{ on := 6, ground := Ground.data }, { on := 5, ground := Ground.data }, { on := 5, ground := Ground.chain }, { on := 0, ground := Ground.phase }, { on := 1, ground := Ground.phase }, { on := 2, ground := Ground.phase }, { on := 3, ground := Ground.phase }, { on := 4, ground := Ground.phase }, { on := 5, ground := Ground.phase }], guard := none } : Oper)) rfl (fun K hK => ?_) AllReadyH.nil
                          · have zb := (L2.out.boxV hg3.out).1
                            have zf := (L2.out.boxV hg3.out).2
                            have z0 := zb.c0
                            have z1 := zb.c1
                            have z2 := zb.c2
                            have y0 := zf.f0
                            have y1 := zf.f1
                            have y2 := zf.f2
                            clear zb zf
                            go_simp
                            have L4 := hide (L2.out.appV hO3.out hg3.out)
                            have b4 := hide (b3.out.setCell (p := ⟨k9, 1, none⟩) L2.out.qB (.slice a3 (pv.length + 1) c3))
                            refine hK.out _ _ trivial (fun hH4 => ?_)
                            clear hK K z0 z1 z2 y0 y1 y2
                            obtain ⟨w4, hw4⟩ : ∃ z9, z9 = w3.setCell ⟨k9, 1, none⟩ (.slice a3 (pv.length + 1) c3) := ⟨_, rfl⟩
                            rw [← hw4] at L4 b4  ⊢
                            clear hw4
                            refine wpAnyH_done (by kernel_rfl) ?_ _
                            go_wp2_with fail
                            go_meet
                            case rel => exact ⟨_, b4.out, _, rfl, L4.out⟩
                case rest =>
                  obtain ⟨va3, h8⟩ := hcut
                  clear h5 cO
                  go_upto_region 10 with fail
                  go_name_world W10 hW10
                  rw [hW10] at h8
                  clear hW10
                  obtain ⟨tv, htv, hLq⟩ := h8.out.2
                  have L9 := hide hLq
                  have b9 := hide h8.out.1
                  have HTV := hide htv
                  clear h8 hLq htv
                  have hw : wrap64 ((i : Int).tmod 9) = ((i % 9 : Nat) : Int) := by
                    rw [Int.tmod_eq_emod_of_nonneg (by omega)]; unfold wrap64; omega
                  have hw2 : (i : Int).tmod 9 = ((i % 9 : Nat) : Int) := by
                    rw [Int.tmod_eq_emod_of_nonneg (by omega)]; omega
                  obtain ⟨z9, hz9⟩ : ∃ z, z = ((i % 9 : Nat) : Int) := ⟨_, rfl⟩
                  rw [← hz9] at hw hw2
                  have HZ9 := hide hz9
                  clear hz9
                  have e1 := L9.out.bx.c2
                  have HI := hide ((St.lit1 W10 z9).owi L9.out.Bl)
                  have u1 : Below W10.heap.size W10 (W10.alloc (.cells #[.int .i64 z9] 3)) := (Below.refl _ _).alloc (Nat.le_refl _) _
                  have L10 := hide (L9.out.of u1)
                  have u2 : Below (W10.alloc (.cells #[.int .i64 z9] 3)).heap.size (W10.alloc (.cells #[.int .i64 z9] 3)) ((W10.alloc (.cells #[.int .i64 z9] 3)).alloc (.cells #[.slice (some ⟨W10.heap.size, 0, none⟩) 1 1] 38)) := (Below.refl _ _).alloc (Nat.le_refl _) _
                  have L11 := hide (L10.out.of u2)
                  have HI2 := hide (HI.out.keep u2)
                  have b11 : Hid (Below B wo ((W10.alloc (.cells #[.int .i64 z9] 3)).alloc (.cells #[.slice (some ⟨W10.heap.size, 0, none⟩) 1 1] 38))) := (b9.out.trans (u1.mono L9.out.Bl)).trans (u2.mono L10.out.Bl)
                  have hel : es.length ≤ 1000000 := by have t1 := L9.out.inn.1; have := HO9.out.len; have := HO9.out.le; have := HN3.out; dsimp only at t1; omega
                  have HY : Hid (((W10.alloc (.cells #[.int .i64 z9] 3)).alloc (.cells #[.slice (some ⟨W10.heap.size, 0, none⟩) 1 1] 38)).cell? ⟨W10.heap.size + 1, 0, none⟩ = some (.slice (some ⟨W10.heap.size, 0, none⟩) 1 1)) := hide (by have t := (C1.new (W10.alloc (.cells #[.int .i64 z9] 3)) (.slice (some ⟨W10.heap.size, 0, none⟩) 1 1) 38).c; rw [show (W10.alloc (.cells #[.int .i64 z9] 3)).heap.size = W10.heap.size + 1 by simp] at t; exact t)
                  clear u1 u2
                  go_wp2_with (at_builtin; refine wpList_appR' ((W10.alloc (.cells #[.int .i64 z9] 3)).alloc (.cells #[.slice (some ⟨W10.heap.size, 0, none⟩) 1 1] 38)) B rfl (.tmp 49) (.tmp 53) rfl _ es (.slice (some ⟨W10.heap.size, 0, none⟩) 1 1) (W10.heap.size + 1) rfl L11.out.os HY.out rfl rfl hel L11.out.Bl ?_; intro a3 c3 w3 hO hg; have zb := L11.out.boxR hg; have z0 := zb.1.c0; have z1 := zb.1.c1; have z2 := zb.1.c2; have y0 := zb.2.f0; have y1 := zb.2.f1; have y2 := zb.2.f2; replace hO := hide hO; replace hg := hide hg; clear zb e1)
                  have b12 := hide (L11.out.belR b11.out hg.out)
                  have b13 := hide (b12.out.setCell (p := ⟨k9, 2, none⟩) L11.out.qB (.slice a3 (es.length + 1) c3))
                  have L13 := hide (L11.out.appR HI2.out hO.out hg.out)
                  go_roundg (gk - 1)
                  case measure => have := HG.out; omega
                  case rel =>
                    refine ⟨us ++ [ofV i], ss ++ [[((i % 9 : Nat) : Int)]], va3, (.slice a3 (es.length + 1) c3), es ++ [.slice (some ⟨W10.heap.size, 0, none⟩) 1 1], by have := HG.out; simp; omega, b13.out, ?_, HO9.out.app hlt i hi2⟩
                    have t := L13.out
                    rw [HTV.out, HZ9.out, HU.out.1, HU.out.2] at t
                    rw [List.map_append]
                    exact t
            · have hlt2 : ¬ (us.length : Int) < n := by omega
              go_wp2_with fail
              go_meet
              case rel => exact ⟨_, _, _, _, _, h5.out.1, h5.out.2.1, h5.out.2.2, fun _ => by have := HG.out; omega⟩
        case rest =>
          obtain ⟨us, ss, va, sa, es, h5⟩ := hcut
          clear I0
          have HC := hide (h5.out.2.2.1.w9 HN3.out h5.out.2.2.2)
          have HRC : Hid (Rs wc (.agg #[.bool r, va, sa]) (VS.mk r us ss).raw) := hide h5.out.2.1.rs
          have HK9 := hide h5.out.2.1.bx
          have HG1 := hide (h4.out.keep (HBd.out ▸ h5.out.1))
          obtain ⟨cS, hcS⟩ : ∃ z9, z9 = VS.mk r us ss := ⟨_, rfl⟩
          rw [← hcS] at HC HRC
          have HW : Hid (W9 n x ∧ W9 n cS) := hide ⟨HG1.out.ox, HC.out⟩
          clear h5 h4 HBd hcS HC
          go_upto_region 11 with fail
          go_name_world W11 hW11
          rw [hW11] at HRC HK9 HG1
          clear hW11
          have HX : Hid (∀ w', Below W11.heap.size W11 w' → Gx n ch w w' k6 qx vx sx x) := hide (fun w' h => HG1.out.keep h)
          have HC9 : Hid (∀ w', Below W11.heap.size W11 w' → Rs w' (.agg #[.bool r, va, sa]) cS.raw) := hide (fun w' h => HRC.out.keep h)
          have HS : Hid (∀ w', Below W11.heap.size W11 w' → (w'.cell? ⟨k6, 0, none⟩ = some (.bool qx) ∧ w'.cell? ⟨k6, 1, none⟩ = some (vx) ∧ w'.cell? ⟨k6, 2, none⟩ = some (sx) ∧ w'.cell? ⟨k9, 0, none⟩ = some (.bool r) ∧ w'.cell? ⟨k9, 1, none⟩ = some (va) ∧ w'.cell? ⟨k9, 2, none⟩ = some (sa))) := hide (fun w' h => by have t := HG1.out.keep h; have t2 := HK9.out.keep h; exact ⟨t.bx.c0, t.bx.c1, t.bx.c2, t2.c0, t2.c1, t2.c2⟩)
          go_cut [10] (fun s10 wx => ∃ (k10 : Nat) (qj : Bool) (ja : Option Addr) (nj jc : Nat) (jb : Option Addr) (mj jd : Nat), s10 = .pointer (some ⟨k10, 0, none⟩) ∧ Hid (Below W11.heap.size W11 wx ∧ Bs wx k10 qj (.slice ja nj jc) (.slice jb mj jd) ∧ Rp wx [k6, k10] (.agg #[.bool qj, .slice ja nj jc, .slice jb mj jd]) (togV widenV x cS).raw))
          case first =>
            refine wp_region_held_drew (S := fun w' => w'.cell? ⟨k6, 0, none⟩ = some (.bool qx) ∧ w'.cell? ⟨k6, 1, none⟩ = some (vx) ∧ w'.cell? ⟨k6, 2, none⟩ = some (sx) ∧ w'.cell? ⟨k9, 0, none⟩ = some (.bool r) ∧ w'.cell? ⟨k9, 1, none⟩ = some (va) ∧ w'.cell? ⟨k9, 2, none⟩ = some (sa)) (by kernel_rfl) (HS.out _ (Below.refl _ _).drew) (fun hH0 => ?_)
            obtain ⟨w0, hw0⟩ : ∃ w0, w0 = W11.drew := ⟨_, rfl⟩
            (try rw [← hw0] at hH0)
            rw [← hw0]
            have b0 : Hid (Below W11.heap.size W11 w0) := hw0 ▸ hide (Below.refl _ _).drew
            clear hw0
            refine wpAnyH_take (i := 0) (oi := ({ dst := some 56, op := Op.load 29 (Operand.tmp 6), type := 29, pos := "law.go:165", after := #[], guard := none } : Oper)) (v := ?_) rfl (by kernel_rfl) (by kernel_rfl) (by kernel_rfl) (fun _ _ _ h => h) (Or.inl ⟨by rfl, ?_⟩) (by assumption) ?_
            rotate_left
            · (intro wz hSw; (try dsimp only at hSw); go_simp; try with_reducible rfl)
            simp only [Act.put, List.setIfInBounds_toArray, List.set_cons_zero, List.set_cons_succ]
            refine wpAnyH_take (i := 1) (oi := ({ dst := some 57, op := Op.load 25 (Operand.tmp 9), type := 25, pos := "law.go:165", after := #[], guard := none } : Oper)) (v := ?_) rfl (by kernel_rfl) (by kernel_rfl) (by kernel_rfl) (fun _ _ _ h => h) (Or.inl ⟨by rfl, ?_⟩) (by assumption) ?_
            rotate_left
            · (intro wz hSw; (try dsimp only at hSw); go_simp; try with_reducible rfl)
            simp only [Act.put, List.setIfInBounds_toArray, List.set_cons_zero, List.set_cons_succ]
            refine wpAnyH_ready (rs := [2, 4]) (by kernel_rfl) (by simp) ?_
            refine AllReadyH.cons (o := ({ dst := some 58, op := Op.call { callee := Callee.value (Operand.func 11), args := #[Operand.tmp 57], argTypes := #[25] }, type := 29, pos := "law.go:165", after := #[{ on := 1, ground := Ground.data }], guard := none } : Oper)) rfl (fun K hK => ?_) (AllReadyH.cons (o := ({ dst := some 10, op := Op.alloc 29, type := 0, pos := "law.go:165", after := #[], guard := none } : Oper)) rfl (fun K hK => ?_) AllReadyH.nil)
            · go_simp
              go_at_call 11
              refine (to_J9 (HC9.out _ b0.out) HW.out.2.ok (by omega)).mono ?_
              rintro e1 w1 ⟨yc, rfl, hb1, P1_1⟩
              have b1 := hide (b0.out.trans (hb1.mono b0.out.size))
              refine hK.out _ _ (HS.out _ b1.out) (fun hH1 => ?_)
              clear hK K hb1
              refine wpAnyH_ready (rs := [3, 4]) (by kernel_rfl) (by simp) ?_
              refine AllReadyH.cons (o := ({ dst := some 59, op := Op.call { callee := Callee.value (Operand.func 16), args := #[Operand.tmp 56, Operand.tmp 58], argTypes := #[29, 29] }, type := 29, pos := "law.go:165", after := #[{ on := 0, ground := Ground.data }, { on := 2, ground := Ground.data }, { on := 2, ground := Ground.chain }], guard := none } : Oper)) rfl (fun K hK => ?_) (AllReadyH.cons (o := ({ dst := some 10, op := Op.alloc 29, type := 0, pos := "law.go:165", after := #[], guard := none } : Oper)) rfl (fun K hK => ?_) AllReadyH.nil)
              · go_simp
                go_at_call 16
                have zk := (HX.out _ b1.out).bx.lt
                refine (widenR9 (HX.out _ b1.out).rx P1_1 HW.out.1.ok HW.out.2.ok (by omega) (by omega)).mono ?_
                rintro e2 w2 ⟨yj, rfl, hb2, hR⟩
                have b2 := hide (b1.out.trans (hb2.mono b1.out.size))
                obtain ⟨qj, ja, nj, jc, jb, mj, jd, hvj⟩ := hR.form7
                subst hvj
                have J_2 := hR.rp (L := [k6]) (by intro k hk; simp at hk; omega)
                clear hR zk P1_1
                refine hK.out _ _ (HS.out _ b2.out) (fun hH2 => ?_)
                clear hK K hb2
                refine wpAnyH_ready (rs := [4]) (by kernel_rfl) (by simp) ?_
                refine AllReadyH.cons (o := ({ dst := some 10, op := Op.alloc 29, type := 0, pos := "law.go:165", after := #[], guard := none } : Oper)) rfl (fun K hK => ?_) AllReadyH.nil
                · go_simp
                  have hb3 : Below w2.heap.size w2 (w2.alloc (.cells #[.bool false, .slice none 0 0, .slice none 0 0] 29)) := (Below.refl _ _).alloc (Nat.le_refl _) _
                  have b3 := hide (b2.out.trans (hb3.mono b2.out.size))
                  have J_3 := J_2.of (L' := [k6, w2.heap.size]) (by intro k hk; simp at hk ⊢; omega) (fun k _ hk => hb3.block k hk)
                  have K10_3 := Bs.new w2 false (.slice none 0 0) (.slice none 0 0) 29
                  have F10_3 := Fs.new w2 false (.slice none 0 0) (.slice none 0 0) 29
                  have nk := hide b2.out.size
                  refine hK.out _ _ (HS.out _ b3.out) (fun hH3 => ?_)
                  clear hK K hb3
                  obtain ⟨w3, hw3⟩ : ∃ z9, z9 = (w2.alloc (.cells #[.bool false, .slice none 0 0, .slice none 0 0] 29)) := ⟨_, rfl⟩
                  rw [← hw3] at hH3 b3 J_3 K10_3 F10_3 ⊢
                  clear hw3
                  generalize w2.heap.size = k10 at *
                  refine wpAnyH_ready (rs := [5]) (by kernel_rfl) (by simp) ?_
                  refine AllReadyH.cons (o := ({ dst := none, op := Op.store 29 (Operand.tmp 10) (Operand.tmp 59), type := 0, pos := "law.go:165", after := #[{ on := 4, ground := Ground.data }, { on := 3, ground := Ground.data }, { on := 3, ground := Ground.chain }, { on := 0, ground := Ground.phase }, { on := 1, ground := Ground.phase }, { on := 2, ground := Ground.phase }, { on := 3, ground := Ground.phase }, { on := 4, ground := Ground.phase }], guard := none } : Oper)) rfl (fun K hK => ?_) AllReadyH.nil
                  · have z0 := K10_3.c0
                    have z1 := K10_3.c1
                    have z2 := K10_3.c2
                    have y0 := F10_3.f0
                    have y1 := F10_3.f1
                    have y2 := F10_3.f2
                    go_simp
                    have K10_4 := K10_3.put3 qj (.slice ja nj jc) (.slice jb mj jd)
                    have J_4 := J_3.put7 (k := k10) (by simp) qj (.slice ja nj jc) (.slice jb mj jd)
                    have b4 := hide (st3_below b3.out k10 nk.out qj (.slice ja nj jc) (.slice jb mj jd))
                    unfold st3 at K10_4 J_4 b4
                    refine hK.out _ _ (HS.out _ b4.out) (fun hH4 => ?_)
                    clear hK K z0 z1 z2 y0 y1 y2
                    refine wpAnyH_done (by kernel_rfl) ?_ _
                    go_wp2_with fail
                    go_meet
                    case rel => exact ⟨_, _, _, _, _, _, _, _, rfl, b4.out, K10_4, J_4⟩
              · go_simp
                have hb2 : Below w1.heap.size w1 (w1.alloc (.cells #[.bool false, .slice none 0 0, .slice none 0 0] 29)) := (Below.refl _ _).alloc (Nat.le_refl _) _
                have b2 := hide (b1.out.trans (hb2.mono b1.out.size))
                have P1_2 := P1_1.keep hb2
                have K10_2 := Bs.new w1 false (.slice none 0 0) (.slice none 0 0) 29
                have F10_2 := Fs.new w1 false (.slice none 0 0) (.slice none 0 0) 29
                have nk := hide b1.out.size
                refine hK.out _ _ (HS.out _ b2.out) (fun hH2 => ?_)
                clear hK K hb2
                obtain ⟨w2, hw2⟩ : ∃ z9, z9 = (w1.alloc (.cells #[.bool false, .slice none 0 0, .slice none 0 0] 29)) := ⟨_, rfl⟩
                rw [← hw2] at hH2 b2 P1_2 K10_2 F10_2 ⊢
                clear hw2
                generalize w1.heap.size = k10 at *
                refine wpAnyH_ready (rs := [3]) (by kernel_rfl) (by simp) ?_
                refine AllReadyH.cons (o := ({ dst := some 59, op := Op.call { callee := Callee.value (Operand.func 16), args := #[Operand.tmp 56, Operand.tmp 58], argTypes := #[29, 29] }, type := 29, pos := "law.go:165", after := #[{ on := 0, ground := Ground.data }, { on := 2, ground := Ground.data }, { on := 2, ground := Ground.chain }], guard := none } : Oper)) rfl (fun K hK => ?_) AllReadyH.nil
                · go_simp
                  go_at_call 16
                  have zk := (HX.out _ b2.out).bx.lt
                  have zl := K10_2.lt
                  refine (widenR9 (HX.out _ b2.out).rx P1_2 HW.out.1.ok HW.out.2.ok (by omega) (by omega)).mono ?_
                  rintro e2 w3 ⟨yj, rfl, hb3, hR⟩
                  have b3 := hide (b2.out.trans (hb3.mono b2.out.size))
                  have K10_3 := K10_2.keep hb3
                  have F10_3 := F10_2.of (hb3.block _ K10_2.lt)
                  obtain ⟨qj, ja, nj, jc, jb, mj, jd, hvj⟩ := hR.form7
                  subst hvj
                  have J_3 := hR.rp (L := [k6, k10]) (by intro k hk; simp at hk; omega)
                  clear hR zk zl P1_2
                  refine hK.out _ _ (HS.out _ b3.out) (fun hH3 => ?_)
                  clear hK K hb3
                  refine wpAnyH_ready (rs := [5]) (by kernel_rfl) (by simp) ?_
                  refine AllReadyH.cons (o := ({ dst := none, op := Op.store 29 (Operand.tmp 10) (Operand.tmp 59), type := 0, pos := "law.go:165", after := #[{ on := 4, ground := Ground.data }, { on := 3, ground := Ground.data }, { on := 3, ground := Ground.chain }, { on := 0, ground := Ground.phase }, { on := 1, ground := Ground.phase }, { on := 2, ground := Ground.phase }, { on := 3, ground := Ground.phase }, { on := 4, ground := Ground.phase }], guard := none } : Oper)) rfl (fun K hK => ?_) AllReadyH.nil
                  · have z0 := K10_3.c0
                    have z1 := K10_3.c1
                    have z2 := K10_3.c2
                    have y0 := F10_3.f0
                    have y1 := F10_3.f1
                    have y2 := F10_3.f2
                    go_simp
                    have K10_4 := K10_3.put3 qj (.slice ja nj jc) (.slice jb mj jd)
                    have J_4 := J_3.put7 (k := k10) (by simp) qj (.slice ja nj jc) (.slice jb mj jd)
                    have b4 := hide (st3_below b3.out k10 nk.out qj (.slice ja nj jc) (.slice jb mj jd))
                    unfold st3 at K10_4 J_4 b4
                    refine hK.out _ _ (HS.out _ b4.out) (fun hH4 => ?_)
                    clear hK K z0 z1 z2 y0 y1 y2
                    refine wpAnyH_done (by kernel_rfl) ?_ _
                    go_wp2_with fail
                    go_meet
                    case rel => exact ⟨_, _, _, _, _, _, _, _, rfl, b4.out, K10_4, J_4⟩
            · go_simp
              have hb1 : Below w0.heap.size w0 (w0.alloc (.cells #[.bool false, .slice none 0 0, .slice none 0 0] 29)) := (Below.refl _ _).alloc (Nat.le_refl _) _
              have b1 := hide (b0.out.trans (hb1.mono b0.out.size))
              have K10_1 := Bs.new w0 false (.slice none 0 0) (.slice none 0 0) 29
              have F10_1 := Fs.new w0 false (.slice none 0 0) (.slice none 0 0) 29
              have nk := hide b0.out.size
              refine hK.out _ _ (HS.out _ b1.out) (fun hH1 => ?_)
              clear hK K hb1
              obtain ⟨w1, hw1⟩ : ∃ z9, z9 = (w0.alloc (.cells #[.bool false, .slice none 0 0, .slice none 0 0] 29)) := ⟨_, rfl⟩
              rw [← hw1] at hH1 b1 K10_1 F10_1 ⊢
              clear hw1
              generalize w0.heap.size = k10 at *
              refine wpAnyH_ready (rs := [2]) (by kernel_rfl) (by simp) ?_
              refine AllReadyH.cons (o := ({ dst := some 58, op := Op.call { callee := Callee.value (Operand.func 11), args := #[Operand.tmp 57], argTypes := #[25] }, type := 29, pos := "law.go:165", after := #[{ on := 1, ground := Ground.data }], guard := none } : Oper)) rfl (fun K hK => ?_) AllReadyH.nil
              · go_simp
                go_at_call 11
                refine (to_J9 (HC9.out _ b1.out) HW.out.2.ok (by omega)).mono ?_
                rintro e1 w2 ⟨yc, rfl, hb2, P1_2⟩
                have b2 := hide (b1.out.trans (hb2.mono b1.out.size))
                have K10_2 := K10_1.keep hb2
                have F10_2 := F10_1.of (hb2.block _ K10_1.lt)
                refine hK.out _ _ (HS.out _ b2.out) (fun hH2 => ?_)
                clear hK K hb2
                refine wpAnyH_ready (rs := [3]) (by kernel_rfl) (by simp) ?_
                refine AllReadyH.cons (o := ({ dst := some 59, op := Op.call { callee := Callee.value (Operand.func 16), args := #[Operand.tmp 56, Operand.tmp 58], argTypes := #[29, 29] }, type := 29, pos := "law.go:165", after := #[{ on := 0, ground := Ground.data }, { on := 2, ground := Ground.data }, { on := 2, ground := Ground.chain }], guard := none } : Oper)) rfl (fun K hK => ?_) AllReadyH.nil
                · go_simp
                  go_at_call 16
                  have zk := (HX.out _ b2.out).bx.lt
                  have zl := K10_2.lt
                  refine (widenR9 (HX.out _ b2.out).rx P1_2 HW.out.1.ok HW.out.2.ok (by omega) (by omega)).mono ?_
                  rintro e2 w3 ⟨yj, rfl, hb3, hR⟩
                  have b3 := hide (b2.out.trans (hb3.mono b2.out.size))
                  have K10_3 := K10_2.keep hb3
                  have F10_3 := F10_2.of (hb3.block _ K10_2.lt)
                  obtain ⟨qj, ja, nj, jc, jb, mj, jd, hvj⟩ := hR.form7
                  subst hvj
                  have J_3 := hR.rp (L := [k6, k10]) (by intro k hk; simp at hk; omega)
                  clear hR zk zl P1_2
                  refine hK.out _ _ (HS.out _ b3.out) (fun hH3 => ?_)
                  clear hK K hb3
                  refine wpAnyH_ready (rs := [5]) (by kernel_rfl) (by simp) ?_
                  refine AllReadyH.cons (o := ({ dst := none, op := Op.store 29 (Operand.tmp 10) (Operand.tmp 59), type := 0, pos := "law.go:165", after := #[{ on := 4, ground := Ground.data }, { on := 3, ground := Ground.data }, { on := 3, ground := Ground.chain }, { on := 0, ground := Ground.phase }, { on := 1, ground := Ground.phase }, { on := 2, ground := Ground.phase }, { on := 3, ground := Ground.phase }, { on := 4, ground := Ground.phase }], guard := none } : Oper)) rfl (fun K hK => ?_) AllReadyH.nil
                  · have z0 := K10_3.c0
                    have z1 := K10_3.c1
                    have z2 := K10_3.c2
                    have y0 := F10_3.f0
                    have y1 := F10_3.f1
                    have y2 := F10_3.f2
                    go_simp
                    have K10_4 := K10_3.put3 qj (.slice ja nj jc) (.slice jb mj jd)
                    have J_4 := J_3.put7 (k := k10) (by simp) qj (.slice ja nj jc) (.slice jb mj jd)
                    have b4 := hide (st3_below b3.out k10 nk.out qj (.slice ja nj jc) (.slice jb mj jd))
                    unfold st3 at K10_4 J_4 b4
                    refine hK.out _ _ (HS.out _ b4.out) (fun hH4 => ?_)
                    clear hK K z0 z1 z2 y0 y1 y2
                    refine wpAnyH_done (by kernel_rfl) ?_ _
                    go_wp2_with fail
                    go_meet
                    case rel => exact ⟨_, _, _, _, _, _, _, _, rfl, b4.out, K10_4, J_4⟩
          case rest =>
            obtain ⟨k10, qj, ja, nj, jc, jb, mj, jd, rfl, h12⟩ := hcut
            have HA0 : Hid (Hy n ch w wc k6 k9 k10 qx vx sx r va sa qj (.slice ja nj jc) (.slice jb mj jd) x cS (togV widenV x cS)) := hide ⟨HX.out _ h12.out.1, HK9.out.keep h12.out.1, HC9.out _ h12.out.1, h12.out.2.1, h12.out.2.2⟩
            clear HX HC9 HS HRC HK9 HG1 h12
            go_upto_region 12 with fail
            go_name_world W12 hW12
            rw [hW12] at HA0
            clear hW12
            have HA := HA0
            clear HA0
            have cW1 := fun w' (h : Hy n ch w w' k6 k9 k10 qx vx sx r va sa qj (.slice ja nj jc) (.slice jb mj jd) x cS (togV widenV x cS)) => within_S h.g.rx h.rp.rs HW.out.1.ok (tog_w9 HW.out.1 HW.out.2).ok (by omega)
            have cW2 := fun w' (v : Value) (h : Hy n ch w w' k6 k9 k10 qx vx sx r va sa qj (.slice ja nj jc) (.slice jb mj jd) x cS (togV widenV x cS)) (hv : Rs w' v cS.raw) => within_S hv h.rp.rs HW.out.2.ok (tog_w9 HW.out.1 HW.out.2).ok (by omega)
            rw [(widen_within HW.out.1 HW.out.2).1] at cW1
            rw [(widen_within HW.out.1 HW.out.2).2] at cW2
            have HS : Hid (∀ w', Below W12.heap.size W12 w' → (w'.cell? ⟨k6, 0, none⟩ = some (.bool qx) ∧ w'.cell? ⟨k6, 1, none⟩ = some (vx) ∧ w'.cell? ⟨k6, 2, none⟩ = some (sx) ∧ w'.cell? ⟨k9, 0, none⟩ = some (.bool r) ∧ w'.cell? ⟨k9, 1, none⟩ = some (va) ∧ w'.cell? ⟨k9, 2, none⟩ = some (sa) ∧ w'.cell? ⟨k10, 0, none⟩ = some (.bool qj) ∧ w'.cell? ⟨k10, 1, none⟩ = some (.slice ja nj jc) ∧ w'.cell? ⟨k10, 2, none⟩ = some (.slice jb mj jd))) := hide (fun w' h => by have t := HA.out.keep h; exact ⟨t.g.bx.c0, t.g.bx.c1, t.g.bx.c2, t.b9.c0, t.b9.c1, t.b9.c2, t.b10.c0, t.b10.c1, t.b10.c2⟩)
            refine wp_region_held_drew (S := fun w' => w'.cell? ⟨k6, 0, none⟩ = some (.bool qx) ∧ w'.cell? ⟨k6, 1, none⟩ = some (vx) ∧ w'.cell? ⟨k6, 2, none⟩ = some (sx) ∧ w'.cell? ⟨k9, 0, none⟩ = some (.bool r) ∧ w'.cell? ⟨k9, 1, none⟩ = some (va) ∧ w'.cell? ⟨k9, 2, none⟩ = some (sa) ∧ w'.cell? ⟨k10, 0, none⟩ = some (.bool qj) ∧ w'.cell? ⟨k10, 1, none⟩ = some (.slice ja nj jc) ∧ w'.cell? ⟨k10, 2, none⟩ = some (.slice jb mj jd)) (by kernel_rfl) (HS.out _ (Below.refl _ _).drew) (fun hH0 => ?_)
            obtain ⟨w0, hw0⟩ : ∃ w0, w0 = W12.drew := ⟨_, rfl⟩
            (try rw [← hw0] at hH0)
            rw [← hw0]
            have b0 : Hid (Below W12.heap.size W12 w0) := hw0 ▸ hide (Below.refl _ _).drew
            clear hw0
            refine wpAnyH_take (i := 0) (oi := ({ dst := some 60, op := Op.load 29 (Operand.tmp 6), type := 29, pos := "law.go:166", after := #[], guard := none } : Oper)) (v := ?_) rfl (by kernel_rfl) (by kernel_rfl) (by kernel_rfl) (fun _ _ _ h => h) (Or.inl ⟨by rfl, ?_⟩) (by assumption) ?_
            rotate_left
            · (intro wz hSw; (try dsimp only at hSw); go_simp; try with_reducible rfl)
            simp only [Act.put, List.setIfInBounds_toArray, List.set_cons_zero, List.set_cons_succ]
            refine wpAnyH_take (i := 1) (oi := ({ dst := some 61, op := Op.load 29 (Operand.tmp 10), type := 29, pos := "law.go:166", after := #[], guard := none } : Oper)) (v := ?_) rfl (by kernel_rfl) (by kernel_rfl) (by kernel_rfl) (fun _ _ _ h => h) (Or.inl ⟨by rfl, ?_⟩) (by assumption) ?_
            rotate_left
            · (intro wz hSw; (try dsimp only at hSw); go_simp; try with_reducible rfl)
            simp only [Act.put, List.setIfInBounds_toArray, List.set_cons_zero, List.set_cons_succ]
            refine wpAnyH_ready (rs := [2]) (by kernel_rfl) (by simp) ?_
            refine AllReadyH.cons (o := ({ dst := some 62, op := Op.call { callee := Callee.value (Operand.func 18), args := #[Operand.tmp 60, Operand.tmp 61], argTypes := #[29, 29] }, type := 4, pos := "law.go:166", after := #[{ on := 0, ground := Ground.data }, { on := 1, ground := Ground.data }], guard := none } : Oper)) rfl (fun K hK => ?_) AllReadyH.nil
            · go_simp
              go_at_call 18
              refine (cW1 _ (HA.out.keep b0.out)).mono ?_
              rintro e w1 ⟨rfl, hb1⟩
              have b1 := hide (b0.out.trans (hb1.mono b0.out.size))
              refine hK.out _ _ (HS.out _ b1.out) (fun hH1 => ?_)
              clear hK K hb1
              refine wpAnyH_take (i := 3) (oi := ({ dst := some 63, op := Op.unOp UnOp.not 4 (Operand.tmp 62), type := 4, pos := "law.go:166", after := #[{ on := 2, ground := Ground.data }], guard := none } : Oper)) (v := ?_) rfl (by kernel_rfl) (by kernel_rfl) (by kernel_rfl) (fun _ _ _ h => h) (Or.inl ⟨by rfl, ?_⟩) (by assumption) ?_
              rotate_left
              · (intro wz hSw; (try dsimp only at hSw); go_simp; try with_reducible rfl)
              simp only [Act.put, List.setIfInBounds_toArray, List.set_cons_zero, List.set_cons_succ]
              refine wpAnyH_take (i := 4) (oi := ({ dst := some 64, op := Op.move (Operand.tmp 63), type := 4, pos := "law.go:166", after := #[{ on := 3, ground := Ground.data }, { on := 2, ground := Ground.chain }], guard := none } : Oper)) (v := ?_) rfl (by kernel_rfl) (by kernel_rfl) (by kernel_rfl) (fun _ _ _ h => h) (Or.inl ⟨by rfl, ?_⟩) (by assumption) ?_
              rotate_left
              · (intro wz hSw; (try dsimp only at hSw); go_simp; try with_reducible rfl)
              simp only [Act.put, List.setIfInBounds_toArray, List.set_cons_zero, List.set_cons_succ]
              refine wpAnyH_take (i := 5) (oi := ({ dst := some 65, op := Op.load 25 (Operand.tmp 9), type := 25, pos := "law.go:166", after := #[{ on := 4, ground := Ground.guard }], guard := some (4, false) } : Oper)) (v := ?_) rfl (by kernel_rfl) (by kernel_rfl) (by kernel_rfl) (fun _ _ _ h => h) (Or.inl ⟨by rfl, ?_⟩) (by assumption) ?_
              rotate_left
              · (intro wz hSw; (try dsimp only at hSw); go_simp; try with_reducible rfl)
              simp only [Act.put, List.setIfInBounds_toArray, List.set_cons_zero, List.set_cons_succ]
              refine wpAnyH_take (i := 7) (oi := ({ dst := some 67, op := Op.load 29 (Operand.tmp 10), type := 29, pos := "law.go:166", after := #[{ on := 4, ground := Ground.guard }], guard := some (4, false) } : Oper)) (v := ?_) rfl (by kernel_rfl) (by kernel_rfl) (by kernel_rfl) (fun _ _ _ h => h) (Or.inl ⟨by rfl, ?_⟩) (by assumption) ?_
              rotate_left
              · (intro wz hSw; (try dsimp only at hSw); go_simp; try with_reducible rfl)
              simp only [Act.put, List.setIfInBounds_toArray, List.set_cons_zero, List.set_cons_succ]
              refine wpAnyH_ready (rs := [6]) (by kernel_rfl) (by simp) ?_
              refine AllReadyH.cons (o := ({ dst := some 66, op := Op.call { callee := Callee.value (Operand.func 11), args := #[Operand.tmp 65], argTypes := #[25] }, type := 29, pos := "law.go:166", after := #[{ on := 5, ground := Ground.data }, { on := 4, ground := Ground.chain }, { on := 4, ground := Ground.guard }], guard := some (4, false) } : Oper)) rfl (fun K hK => ?_) AllReadyH.nil
              · go_simp
                go_at_call 11
                refine (to_J9 (HA.out.keep b1.out).rc HW.out.2.ok (by omega)).mono ?_
                rintro e w2 ⟨yc, rfl, hb2, hP⟩
                have P1 := hide hP
                clear hP
                have b2 := hide (b1.out.trans (hb2.mono b1.out.size))
                refine hK.out _ _ (HS.out _ b2.out) (fun hH2 => ?_)
                clear hK K hb2
                refine wpAnyH_ready (rs := [8]) (by kernel_rfl) (by simp) ?_
                refine AllReadyH.cons (o := ({ dst := some 68, op := Op.call { callee := Callee.value (Operand.func 18), args := #[Operand.tmp 66, Operand.tmp 67], argTypes := #[29, 29] }, type := 4, pos := "law.go:166", after := #[{ on := 6, ground := Ground.data }, { on := 7, ground := Ground.data }, { on := 6, ground := Ground.chain }, { on := 4, ground := Ground.guard }], guard := some (4, false) } : Oper)) rfl (fun K hK => ?_) AllReadyH.nil
                · go_simp
                  go_at_call 18
                  refine (cW2 _ _ (HA.out.keep b2.out) P1.out).mono ?_
                  rintro e w3 ⟨rfl, hb3⟩
                  clear P1 cW2
                  have b3 := hide (b2.out.trans (hb3.mono b2.out.size))
                  refine hK.out _ _ (HS.out _ b3.out) (fun hH3 => ?_)
                  clear hK K hb3
                  refine wpAnyH_take (i := 9) (oi := ({ dst := some 69, op := Op.unOp UnOp.not 4 (Operand.tmp 68), type := 4, pos := "law.go:166", after := #[{ on := 8, ground := Ground.data }, { on := 4, ground := Ground.guard }], guard := some (4, false) } : Oper)) (v := ?_) rfl (by kernel_rfl) (by kernel_rfl) (by kernel_rfl) (fun _ _ _ h => h) (Or.inl ⟨by rfl, ?_⟩) (by assumption) ?_
                  rotate_left
                  · (intro wz hSw; (try dsimp only at hSw); go_simp; try with_reducible rfl)
                  simp only [Act.put, List.setIfInBounds_toArray, List.set_cons_zero, List.set_cons_succ]
                  refine wpAnyH_take (i := 10) (oi := ({ dst := some 70, op := Op.pick (Operand.tmp 64) (Operand.const (Value.bool true)) (Operand.tmp 69), type := 4, pos := "law.go:166", after := #[{ on := 4, ground := Ground.data }, { on := 9, ground := Ground.data }], guard := none } : Oper)) (v := ?_) rfl (by kernel_rfl) (by kernel_rfl) (by kernel_rfl) (fun _ _ _ h => h) (Or.inl ⟨by rfl, ?_⟩) (by assumption) ?_
                  rotate_left
                  · (intro wz hSw; (try dsimp only at hSw); go_simp; try with_reducible rfl)
                  simp only [Act.put, List.setIfInBounds_toArray, List.set_cons_zero, List.set_cons_succ]
                  refine wpAnyH_done (by kernel_rfl) ?_ _
                  have HB := hide (HA.out.keep b3.out)
                  clear HS b3 hH3 HA cW1
                  obtain ⟨wb, hwb⟩ : ∃ z9, z9 = w3 := ⟨_, rfl⟩
                  rw [← hwb] at HB ⊢
                  clear hwb
                  go_upto_region 14 with fail
                  have z0 := HB.out.b10.c0
                  have z1 := HB.out.b10.c1
                  have z2 := HB.out.b10.c2
                  have x0 := HB.out.g.bx.c0
                  have x1 := HB.out.g.bx.c1
                  have x2 := HB.out.g.bx.c2
                  have cE := equalE9 HB.out.g.rx HB.out.rp.rs HW.out.1.ok (tog_w9 HW.out.1 HW.out.2).ok (by omega) (by omega)
                  go_cut [74] (fun s74 wx => ∃ bv : Bool, s74 = .bool (!bv) ∧ Hid (Hy n ch w wx k6 k9 k10 qx vx sx r va sa qj (.slice ja nj jc) (.slice jb mj jd) x cS (togV widenV x cS) ∧ (bv = true ↔ x.raw = (togV widenV x cS).raw)))
                  case first =>
                    go_wp2_with (go_at_call 20; refine cE.mono ?_; rintro e wE ⟨bv, rfl, hbE, hi⟩; replace hi := hide hi; replace hbE := hide hbE; clear cE x0 x1 x2 z0 z1 z2)
                    go_meet
                    case rel => exact ⟨bv, by simp, HB.out.keep hbE.out, hi.out⟩
                  case rest =>
                    obtain ⟨bv, rfl, hE⟩ := hcut
                    clear cE x0 x1 x2 z0 z1 z2 HB
                    have HE := hide hE.out.1
                    have HI := hide hE.out.2
                    clear hE
                    have HP := hide (widen_potS HW.out.1 HW.out.2)
                    cases bv with
                    | true =>
                      have z0 := HE.out.b10.c0
                      have z1 := HE.out.b10.c1
                      have z2 := HE.out.b10.c2
                      have x0 := HE.out.g.bx.c0
                      have x1 := HE.out.g.bx.c1
                      have x2 := HE.out.g.bx.c2
                      have y0 := HE.out.g.fx.f0
                      have y1 := HE.out.g.fx.f1
                      have y2 := HE.out.g.fx.f2
                      have HNx := hide (HE.out.next (ch' := ch) (tog_w9 HW.out.1 HW.out.2) (by have := HE.out.g.pot; have := HP.out.1; omega))
                      have hc47 : ch ≤ 46 := by have t1 := HNx.out.pot; have t2 := HN3.out; omega
                      go_wp2_with fail
                      exact ⟨⟨ch, i + 1, _, _, _, _, by simp, by simp, by omega, by omega, hc47, HNx.out⟩, by simp [intOf]; omega⟩
                    | false =>
                      have HQ : Hid (togV widenV x cS ≠ x) := hide (fun e => by have := HI.out.2 (by rw [e]); cases this)
                      have z0 := HE.out.b10.c0
                      have z1 := HE.out.b10.c1
                      have z2 := HE.out.b10.c2
                      have x0 := HE.out.g.bx.c0
                      have x1 := HE.out.g.bx.c1
                      have x2 := HE.out.g.bx.c2
                      have y0 := HE.out.g.fx.f0
                      have y1 := HE.out.g.fx.f1
                      have y2 := HE.out.g.fx.f2
                      have HNx := hide (HE.out.next (ch' := (ch + 1)) (tog_w9 HW.out.1 HW.out.2) (by have := HE.out.g.pot; have := HP.out.2 HQ.out; omega))
                      have hc47 : (ch + 1) ≤ 46 := by have t1 := HNx.out.pot; have t2 := HN3.out; omega
                      go_wp2_with fail
                      exact ⟨⟨(ch + 1), i + 1, _, _, _, _, by simp, by simp, by omega, by omega, hc47, HNx.out⟩, by simp [intOf]; omega⟩
      · have hi22 : ¬ (i : Int) < 40 := by omega
        go_upto_region 17 with fail
        have HH : Hid (ch ≤ 1 + n * 15) := hide (by have := h4.out.pot; omega)
        have hle : (ch : Int) ≤ 1 + (n : Int) * 15 := by have := HH.out; omega
        go_wp2_with (go_at_call 12; refine (told_any _).mono ?_; rintro e wE ⟨rfl, hA⟩; have HE := hide (h4.out.keep hA); clear hA h4)
        go_ret
        exact ⟨by simp, HE.out.bel⟩
    · have hi12 : ¬ (i : Int) < ls.length := by omega
      go_upto_region 17 with fail
      have HH : Hid (ch ≤ 1 + n * 15) := hide (by have := h4.out.pot; omega)
      have hle : (ch : Int) ≤ 1 + (n : Int) * 15 := by have := HH.out; omega
      go_wp2_with (go_at_call 12; refine (told_any _).mono ?_; rintro e wE ⟨rfl, hA⟩; have HE := hide (h4.out.keep hA); clear hA h4)
      go_ret
      exact ⟨by simp, HE.out.bel⟩
end Go.Proofs.Ytmhicllhjiglkaa
