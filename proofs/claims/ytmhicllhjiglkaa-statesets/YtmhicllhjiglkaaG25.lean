import Derived.Test.YtmhicllhjiglkaaG18
import Derived.Test.YtmhicllhjiglkaaG24
import Derived.Test.YtmhicllhjiglkaaG06
namespace Go.Proofs.Ytmhicllhjiglkaa
open Go.RowKit
theorem wi_all (l m : List Int) (h1 : UpP l) (h2 : UpP m) : l.all (fun x => hasL m x) = wiL l m := by
  rw [Bool.eq_iff_iff, wi_iff l m h1 h2, List.all_eq_true]
  unfold hasL
  simp only [List.any_eq_true, beq_iff_eq, exists_eq_right]
set_option maxRecDepth 100000 in
set_option maxHeartbeats 8000000 in
theorem withinr_S0 (a b a2 b2 : Option Addr) (c d c2 d2 : Nat) (r r2 : Bool) (us ts : List V) (ss tt : List (List Int)) (w : World) (hv : RV w a (us.map V.raw)) (hs : RR w b ss) (hv2 : RV w a2 (ts.map V.raw)) (hs2 : RR w b2 tt)
    (hl : us.length ≤ 1000) (hl2 : ts.length ≤ 1000) (hls : ss.length = us.length) (hls2 : tt.length = ts.length) (hl3 : ∀ l ∈ ss, UpP l ∧ l.length ≤ 10000) (hl4 : ∀ l ∈ tt, UpP l ∧ l.length ≤ 10000) :
    Calls Try.prog 19 #[.agg #[.bool r, .slice a us.length c, .slice b ss.length d], .agg #[.bool r2, .slice a2 ts.length c2, .slice b2 tt.length d2]] w fun e w' => e = .returned (.bool (withinVS ⟨r, us, ss⟩ ⟨r2, ts, tt⟩)) ∧ Below w.heap.size w w' := by
  have HV := hide hv
  have HR := hide hs
  have HV2 := hide hv2
  have HR2 := hide hs2
  have HL := hide (And.intro hl3 hl4)
  have HLS := hide (And.intro hls hls2)
  have i1 : (us.length : Int) ≤ 1000 := by omega
  have i2 : (ts.length : Int) ≤ 1000 := by omega
  clear hv hs hv2 hs2 hl3 hl4
  cases r with
  | false =>
    rw [show withinVS ⟨false, us, ss⟩ ⟨r2, ts, tt⟩ = true from rfl]
    go_enter Try.func19, Try.ntmps19
    go_wp2
    go_ret
    exact ⟨by simp, (by repeat (first | exact Below.refl _ _ | (refine Below.alloc ?_ (by first | omega | (simp; done) | (simp; omega)) _)))⟩
  | true =>
    cases r2 with
    | false =>
      rw [show withinVS ⟨true, us, ss⟩ ⟨false, ts, tt⟩ = false from rfl]
      go_enter Try.func19, Try.ntmps19
      go_wp2
      go_ret
      exact ⟨by simp, (by repeat (first | exact Below.refl _ _ | (refine Below.alloc ?_ (by first | omega | (simp; done) | (simp; omega)) _)))⟩
    | true =>
      rw [show withinVS ⟨true, us, ss⟩ ⟨true, ts, tt⟩ = (allV us ts && allS ss tt) from rfl]
      by_cases hm : us.length = ts.length
      · have b1' : ((us.length : Int) != ts.length) = false := by simp [hm]
        have b2' : ((ss.length : Int) != tt.length) = false := by simp; omega
        have HLn := hide hm
        clear hm hls hls2
        have cR1 : ∀ w, Calls Try.prog 51 #[.agg #[.bool true, .slice a us.length c, .slice b ss.length d]] w fun e w' => e = .returned (.int .i64 (us.length : Int)) ∧ Below w.heap.size w w' := fun w => by
          have t := regs_any true a b us.length c ss.length d w
          rw [HLS.out.1, Nat.min_self] at t
          rw [HLS.out.1]; exact t
        go_enter Try.func19, Try.ntmps19
        go_upto_region 5 with fail
        go_name_world W hW
        obtain ⟨q1, h1⟩ : ∃ z9, z9 = w.heap.size + 1 := ⟨_, rfl⟩
        rw [← h1]
        obtain ⟨q0, h0⟩ : ∃ z9, z9 = w.heap.size := ⟨_, rfl⟩
        rw [← h0]
        have H1 : Hid (Bs W q0 true (.slice a us.length c) (.slice b ss.length d) ∧ Bs W q1 true (.slice a2 ts.length c2) (.slice b2 tt.length d2) ∧ Below w.heap.size w W) := by
          unfold Hid
          rw [h1, h0]
          obtain ⟨B0, -, B1, -, u⟩ := boxes2 w _ _ _ _ _ _ _ _ W hW
          exact ⟨B0, B1, u⟩
        clear hW h1 h0 b1' b2'
        go_wp2_with fail
        go_loopw [5] (fun sk wr => ∃ k : Nat, sk = .int .i64 k ∧ k ≤ us.length ∧ Hid (Below w.heap.size w wr ∧ Below W.heap.size W wr ∧ (allV (us.drop k) (ts.drop k) = allV us ts ∧ allS (ss.drop k) (tt.drop k) = allS ss tt))) (fun sk _ => us.length - (intOf sk).toNat)
        case atStart => exact ⟨0, rfl, Nat.zero_le _, H1.out.2.2, Below.refl _ _, rfl, rfl⟩
        case round =>
          obtain ⟨k, rfl, hk, h4⟩ := hrel
          have e0 := (H1.out.1.keep h4.out.2.1).c0
          have e1 := (H1.out.1.keep h4.out.2.1).c1
          have e2 := (H1.out.1.keep h4.out.2.1).c2
          by_cases hkv : k < us.length
          · have hkv2 : (k : Int) < us.length := by omega
            have j2 : k < ts.length := by have := HLn.out; omega
            have j4 : (k : Int) < ts.length := by omega
            have j5 : k < ss.length := by have := HLS.out; omega
            have j6 : k < tt.length := by have := HLS.out; omega
            have j7 : (k : Int) < ss.length := by omega
            have j8 : (k : Int) < tt.length := by omega
            obtain ⟨b1, o1, x0, hX, rfl, hx6⟩ := HV.out.at (m := k) (by rw [List.length_map]; exact hkv)
            obtain ⟨b3, o3, y0, hY, rfl, hy6⟩ := HV2.out.at (m := k) (by rw [List.length_map]; exact j2)
            obtain ⟨b6, o6, l, ai, ci, hL, rfl, f1, f2, f3, f4⟩ := HR.out.at j5
            obtain ⟨b7, o7, m, aj, cj, hL2, rfl, f5, f6, f7, f8⟩ := HR2.out.at j6
            obtain ⟨x, hxk, rfl⟩ : ∃ x, us[k]? = some x ∧ x.raw = x0 := by rw [List.getElem?_map, Option.map_eq_some_iff] at hX; exact hX
            obtain ⟨y, hyk, rfl⟩ : ∃ y, ts[k]? = some y ∧ y.raw = y0 := by rw [List.getElem?_map, Option.map_eq_some_iff] at hY; exact hY
            have HD : Hid (allV us ts = (withinV x y && allV (us.drop (k + 1)) (ts.drop (k + 1)))) := hide (by
              rw [← h4.out.2.2.1, List.drop_eq_getElem_cons hkv, List.drop_eq_getElem_cons j2]
              obtain ⟨_, e1⟩ := List.getElem?_eq_some_iff.1 hxk
              obtain ⟨_, e2⟩ := List.getElem?_eq_some_iff.1 hyk
              rw [e1, e2]; rfl)
            have HE : Hid (allS ss tt = (wiL l m && allS (ss.drop (k + 1)) (tt.drop (k + 1)))) := hide (by
              rw [← h4.out.2.2.2, List.drop_eq_getElem_cons j5, List.drop_eq_getElem_cons j6]
              obtain ⟨_, e1⟩ := List.getElem?_eq_some_iff.1 hL
              obtain ⟨_, e2⟩ := List.getElem?_eq_some_iff.1 hL2
              rw [e1, e2]; rfl)
            have g1 := HL.out.1 l (List.mem_of_getElem? hL)
            have g2 := HL.out.2 m (List.mem_of_getElem? hL2)
            have H6 := hide (And.intro hx6 hy6)
            have H7 := hide (And.intro f1 (And.intro f2 (And.intro f5 f6)))
            have CG : Hid (∀ w', Calls Try.prog 52 #[.agg #[.int .i64 (up x.s), .bool x.k, .int .i64 x.n, .int .i64 x.lo, .int .i64 x.hi, .int .i64 (up x.p)], .agg #[.int .i64 (up y.s), .bool y.k, .int .i64 y.n, .int .i64 y.lo, .int .i64 y.hi, .int .i64 (up y.p)]] w' fun e w'' => e = .returned (.bool (withinV x y)) ∧ Below w'.heap.size w' w'') := hide (fun w' => withinr_V x y w')
            have C0 : Hid (∀ w', Ri w' ai l → Ri w' aj m → Calls Try.prog 53 #[.slice ai l.length ci, .slice aj m.length cj] w' fun e w'' => w'' = w' ∧ e = .returned (.bool (wiL l m))) := hide (fun w' h1 h2 => by
              have t := bwr_any l m ai aj ci cj w' h1 h2 (by omega) (by omega)
              rw [wi_all l m g1.1 g2.1] at t
              exact t)
            clear hX hY hx6 hy6 hL hL2 f1 f2 f3 f4 f5 f6 f7 f8 hxk hyk g1 g2
            go_upto_region 8 with (go_at_call 51; refine (cR1 _).mono ?_; rintro e wA ⟨rfl, hA⟩; replace hA := hide hA; clear e0 e1 e2 cR1)
            go_name_world W8 hW8
            rw [hW8] at hA
            clear hW8
            have HB8 := hide (h4.out.1.trans (hA.out.mono h4.out.1.size))
            have HU8 := hide (h4.out.2.1.trans (hA.out.mono h4.out.2.1.size))
            clear h4 hA
            have C6 : Hid (∀ w', Below W8.heap.size W8 w' → Calls Try.prog 53 #[.slice ai l.length ci, .slice aj m.length cj] w' fun e w'' => w'' = w' ∧ e = .returned (.bool (wiL l m))) := hide (fun w' h => C0.out w' (H7.out.2.1.keep' (HB8.out.trans (h.mono HB8.out.size))) (H7.out.2.2.2.keep' (HB8.out.trans (h.mono HB8.out.size))))
            have cG := CG.out
            have HS : Hid (∀ w', Below W8.heap.size W8 w' → (w'.cell? ⟨q0, 1, none⟩ = some (.slice (some ⟨b1, o1, none⟩) us.length c) ∧ w'.cell? ⟨q1, 1, none⟩ = some (.slice (some ⟨b3, o3, none⟩) ts.length c2) ∧ w'.cell? ⟨b1, o1 + k * 6, none⟩ = some (.int .i64 (up x.s)) ∧ w'.cell? ⟨b1, o1 + k * 6 + 1, none⟩ = some (.bool x.k) ∧ w'.cell? ⟨b1, o1 + k * 6 + 2, none⟩ = some (.int .i64 x.n) ∧ w'.cell? ⟨b1, o1 + k * 6 + 3, none⟩ = some (.int .i64 x.lo) ∧ w'.cell? ⟨b1, o1 + k * 6 + 4, none⟩ = some (.int .i64 x.hi) ∧ w'.cell? ⟨b1, o1 + k * 6 + 5, none⟩ = some (.int .i64 (up x.p)) ∧ w'.cell? ⟨b3, o3 + k * 6, none⟩ = some (.int .i64 (up y.s)) ∧ w'.cell? ⟨b3, o3 + k * 6 + 1, none⟩ = some (.bool y.k) ∧ w'.cell? ⟨b3, o3 + k * 6 + 2, none⟩ = some (.int .i64 y.n) ∧ w'.cell? ⟨b3, o3 + k * 6 + 3, none⟩ = some (.int .i64 y.lo) ∧ w'.cell? ⟨b3, o3 + k * 6 + 4, none⟩ = some (.int .i64 y.hi) ∧ w'.cell? ⟨b3, o3 + k * 6 + 5, none⟩ = some (.int .i64 (up y.p)) ∧ w'.cell? ⟨q0, 2, none⟩ = some (.slice (some ⟨b6, o6, none⟩) ss.length d) ∧ w'.cell? ⟨q1, 2, none⟩ = some (.slice (some ⟨b7, o7, none⟩) tt.length d2) ∧ w'.cell? ⟨b6, o6 + k, none⟩ = some (.slice ai l.length ci) ∧ w'.cell? ⟨b7, o7 + k, none⟩ = some (.slice aj m.length cj))) := hide (fun w' h => by
              have g := HB8.out.trans (h.mono HB8.out.size)
              have u := HU8.out.trans (h.mono HU8.out.size)
              have t := H6.out.1.keep g
              have t2 := H6.out.2.keep g
              exact ⟨(H1.out.1.keep u).c1, (H1.out.2.1.keep u).c1, t.c0, t.c1, t.c2, t.c3, t.c4, t.c5, t2.c0, t2.c1, t2.c2, t2.c3, t2.c4, t2.c5, (H1.out.1.keep u).c2, (H1.out.2.1.keep u).c2, (g.cell (p := ⟨b6, o6 + k, none⟩) (World.block_lt_of_cell? w _ H7.out.1)).trans H7.out.1, (g.cell (p := ⟨b7, o7 + k, none⟩) (World.block_lt_of_cell? w _ H7.out.2.2.1)).trans H7.out.2.2.1⟩)
            clear CG C0
            generalize withinV x y = bv at *
            generalize wiL l m = bs at *
            cases bv with
            | false =>
              have HF : Hid ((allV us ts && allS ss tt) = false) := hide (by rw [HD.out, Bool.false_and, Bool.false_and])
              clear HD HE C6
              refine wp_region_held_drew (S := fun w' => w'.cell? ⟨q0, 1, none⟩ = some (.slice (some ⟨b1, o1, none⟩) us.length c) ∧ w'.cell? ⟨q1, 1, none⟩ = some (.slice (some ⟨b3, o3, none⟩) ts.length c2) ∧ w'.cell? ⟨b1, o1 + k * 6, none⟩ = some (.int .i64 (up x.s)) ∧ w'.cell? ⟨b1, o1 + k * 6 + 1, none⟩ = some (.bool x.k) ∧ w'.cell? ⟨b1, o1 + k * 6 + 2, none⟩ = some (.int .i64 x.n) ∧ w'.cell? ⟨b1, o1 + k * 6 + 3, none⟩ = some (.int .i64 x.lo) ∧ w'.cell? ⟨b1, o1 + k * 6 + 4, none⟩ = some (.int .i64 x.hi) ∧ w'.cell? ⟨b1, o1 + k * 6 + 5, none⟩ = some (.int .i64 (up x.p)) ∧ w'.cell? ⟨b3, o3 + k * 6, none⟩ = some (.int .i64 (up y.s)) ∧ w'.cell? ⟨b3, o3 + k * 6 + 1, none⟩ = some (.bool y.k) ∧ w'.cell? ⟨b3, o3 + k * 6 + 2, none⟩ = some (.int .i64 y.n) ∧ w'.cell? ⟨b3, o3 + k * 6 + 3, none⟩ = some (.int .i64 y.lo) ∧ w'.cell? ⟨b3, o3 + k * 6 + 4, none⟩ = some (.int .i64 y.hi) ∧ w'.cell? ⟨b3, o3 + k * 6 + 5, none⟩ = some (.int .i64 (up y.p)) ∧ w'.cell? ⟨q0, 2, none⟩ = some (.slice (some ⟨b6, o6, none⟩) ss.length d) ∧ w'.cell? ⟨q1, 2, none⟩ = some (.slice (some ⟨b7, o7, none⟩) tt.length d2) ∧ w'.cell? ⟨b6, o6 + k, none⟩ = some (.slice ai l.length ci) ∧ w'.cell? ⟨b7, o7 + k, none⟩ = some (.slice aj m.length cj)) (by kernel_rfl) (HS.out _ (Below.refl _ _).drew) (fun hH0 => ?_)
              obtain ⟨w0, hw0⟩ : ∃ w0, w0 = W8.drew := ⟨_, rfl⟩
              (try rw [← hw0] at hH0)
              rw [← hw0]
              have b0 : Hid (Below W8.heap.size W8 w0) := hw0 ▸ hide (Below.refl _ _).drew
              clear hw0
              refine wpAnyH_take (i := 0) (oi := ({ dst := some 36, op := Op.fieldAddr 25 (Operand.tmp 2) 1, type := 0, pos := _, after := _, guard := _ } : Oper)) (v := ?_) rfl (by kernel_rfl) (by kernel_rfl) (by kernel_rfl) (fun _ _ _ h => h) (Or.inl ⟨by rfl, ?_⟩) (by assumption) ?_
              rotate_left
              · (intro wz hSw; (try dsimp only at hSw); go_simp; try with_reducible rfl)
              simp only [Act.put, List.setIfInBounds_toArray, List.set_cons_zero, List.set_cons_succ]
              refine wpAnyH_take (i := 1) (oi := ({ dst := some 37, op := Op.load 22 (Operand.tmp 36), type := 22, pos := _, after := _, guard := _ } : Oper)) (v := ?_) rfl (by kernel_rfl) (by kernel_rfl) (by kernel_rfl) (fun _ _ _ h => h) (Or.inl ⟨by rfl, ?_⟩) (by assumption) ?_
              rotate_left
              · (intro wz hSw; (try dsimp only at hSw); go_simp; try with_reducible rfl)
              simp only [Act.put, List.setIfInBounds_toArray, List.set_cons_zero, List.set_cons_succ]
              refine wpAnyH_take (i := 2) (oi := ({ dst := some 38, op := Op.move (Operand.tmp 5), type := 3, pos := _, after := _, guard := _ } : Oper)) (v := ?_) rfl (by kernel_rfl) (by kernel_rfl) (by kernel_rfl) (fun _ _ _ h => h) (Or.inl ⟨by rfl, ?_⟩) (by assumption) ?_
              rotate_left
              · (intro wz hSw; (try dsimp only at hSw); go_simp; try with_reducible rfl)
              simp only [Act.put, List.setIfInBounds_toArray, List.set_cons_zero, List.set_cons_succ]
              refine wpAnyH_take (i := 3) (oi := ({ dst := some 39, op := Op.indexAddr 22 (Operand.tmp 37) (Operand.tmp 38), type := 0, pos := _, after := _, guard := _ } : Oper)) (v := ?_) rfl (by kernel_rfl) (by kernel_rfl) (by kernel_rfl) (fun _ _ _ h => h) (Or.inl ⟨by rfl, ?_⟩) (by assumption) ?_
              rotate_left
              · (intro wz hSw; (try dsimp only at hSw); go_simp; try with_reducible rfl)
              simp only [Act.put, List.setIfInBounds_toArray, List.set_cons_zero, List.set_cons_succ]
              refine wpAnyH_take (i := 4) (oi := ({ dst := some 40, op := Op.load 48 (Operand.tmp 39), type := 48, pos := _, after := _, guard := _ } : Oper)) (v := ?_) rfl (by kernel_rfl) (by kernel_rfl) (by kernel_rfl) (fun _ _ _ h => h) (Or.inl ⟨by rfl, ?_⟩) (by assumption) ?_
              rotate_left
              · (intro wz hSw; (try dsimp only at hSw); go_simp; try with_reducible rfl)
              simp only [Act.put, List.setIfInBounds_toArray, List.set_cons_zero, List.set_cons_succ]
              refine wpAnyH_take (i := 5) (oi := ({ dst := some 41, op := Op.fieldAddr 25 (Operand.tmp 3) 1, type := 0, pos := _, after := _, guard := _ } : Oper)) (v := ?_) rfl (by kernel_rfl) (by kernel_rfl) (by kernel_rfl) (fun _ _ _ h => h) (Or.inl ⟨by rfl, ?_⟩) (by assumption) ?_
              rotate_left
              · (intro wz hSw; (try dsimp only at hSw); go_simp; try with_reducible rfl)
              simp only [Act.put, List.setIfInBounds_toArray, List.set_cons_zero, List.set_cons_succ]
              refine wpAnyH_take (i := 6) (oi := ({ dst := some 42, op := Op.load 22 (Operand.tmp 41), type := 22, pos := _, after := _, guard := _ } : Oper)) (v := ?_) rfl (by kernel_rfl) (by kernel_rfl) (by kernel_rfl) (fun _ _ _ h => h) (Or.inl ⟨by rfl, ?_⟩) (by assumption) ?_
              rotate_left
              · (intro wz hSw; (try dsimp only at hSw); go_simp; try with_reducible rfl)
              simp only [Act.put, List.setIfInBounds_toArray, List.set_cons_zero, List.set_cons_succ]
              refine wpAnyH_take (i := 7) (oi := ({ dst := some 43, op := Op.move (Operand.tmp 5), type := 3, pos := _, after := _, guard := _ } : Oper)) (v := ?_) rfl (by kernel_rfl) (by kernel_rfl) (by kernel_rfl) (fun _ _ _ h => h) (Or.inl ⟨by rfl, ?_⟩) (by assumption) ?_
              rotate_left
              · (intro wz hSw; (try dsimp only at hSw); go_simp; try with_reducible rfl)
              simp only [Act.put, List.setIfInBounds_toArray, List.set_cons_zero, List.set_cons_succ]
              refine wpAnyH_take (i := 8) (oi := ({ dst := some 44, op := Op.indexAddr 22 (Operand.tmp 42) (Operand.tmp 43), type := 0, pos := _, after := _, guard := _ } : Oper)) (v := ?_) rfl (by kernel_rfl) (by kernel_rfl) (by kernel_rfl) (fun _ _ _ h => h) (Or.inl ⟨by rfl, ?_⟩) (by assumption) ?_
              rotate_left
              · (intro wz hSw; (try dsimp only at hSw); go_simp; try with_reducible rfl)
              simp only [Act.put, List.setIfInBounds_toArray, List.set_cons_zero, List.set_cons_succ]
              refine wpAnyH_take (i := 9) (oi := ({ dst := some 45, op := Op.load 48 (Operand.tmp 44), type := 48, pos := _, after := _, guard := _ } : Oper)) (v := ?_) rfl (by kernel_rfl) (by kernel_rfl) (by kernel_rfl) (fun _ _ _ h => h) (Or.inl ⟨by rfl, ?_⟩) (by assumption) ?_
              rotate_left
              · (intro wz hSw; (try dsimp only at hSw); go_simp; try with_reducible rfl)
              simp only [Act.put, List.setIfInBounds_toArray, List.set_cons_zero, List.set_cons_succ]
              refine wpAnyH_ready (rs := [10]) (by kernel_rfl) (by simp) ?_
              refine AllReadyH.cons (o := ({ dst := some 46, op := Op.call { callee := Callee.value (Operand.func 52), args := #[Operand.tmp 40, Operand.tmp 45], argTypes := #[48, 48] }, type := 4, pos := _, after := _, guard := _ } : Oper)) rfl (fun K hK => ?_) AllReadyH.nil
              · go_simp
                go_at_call 52
                refine (cG _).mono ?_
                rintro e w1 ⟨rfl, hb1⟩
                have b1 := hide (b0.out.trans (hb1.mono b0.out.size))
                refine hK.out _ _ (HS.out _ b1.out) (fun hH1 => ?_)
                clear hK K hb1
                refine wpAnyH_take (i := 11) (oi := ({ dst := some 47, op := Op.unOp UnOp.not 4 (Operand.tmp 46), type := 4, pos := _, after := _, guard := _ } : Oper)) (v := ?_) rfl (by kernel_rfl) (by kernel_rfl) (by kernel_rfl) (fun _ _ _ h => h) (Or.inl ⟨by rfl, ?_⟩) (by assumption) ?_
                rotate_left
                · (intro wz hSw; (try dsimp only at hSw); go_simp; try with_reducible rfl)
                simp only [Act.put, List.setIfInBounds_toArray, List.set_cons_zero, List.set_cons_succ]
                refine wpAnyH_take (i := 12) (oi := ({ dst := some 48, op := Op.move (Operand.tmp 47), type := 4, pos := _, after := _, guard := _ } : Oper)) (v := ?_) rfl (by kernel_rfl) (by kernel_rfl) (by kernel_rfl) (fun _ _ _ h => h) (Or.inl ⟨by rfl, ?_⟩) (by assumption) ?_
                rotate_left
                · (intro wz hSw; (try dsimp only at hSw); go_simp; try with_reducible rfl)
                simp only [Act.put, List.setIfInBounds_toArray, List.set_cons_zero, List.set_cons_succ]
                refine wpAnyH_take (i := 13) (oi := ({ dst := some 49, op := Op.fieldAddr 25 (Operand.tmp 2) 2, type := 0, pos := _, after := _, guard := _ } : Oper)) (v := undef) rfl (by kernel_rfl) (by kernel_rfl) (by kernel_rfl) (fun _ _ _ h => h) (Or.inr ⟨by rfl, rfl⟩) (by assumption) ?_
                simp only [Act.put, List.setIfInBounds_toArray, List.set_cons_zero, List.set_cons_succ]
                refine wpAnyH_take (i := 14) (oi := ({ dst := some 50, op := Op.load 23 (Operand.tmp 49), type := 23, pos := _, after := _, guard := _ } : Oper)) (v := undef) rfl (by kernel_rfl) (by kernel_rfl) (by kernel_rfl) (fun _ _ _ h => h) (Or.inr ⟨by rfl, rfl⟩) (by assumption) ?_
                simp only [Act.put, List.setIfInBounds_toArray, List.set_cons_zero, List.set_cons_succ]
                refine wpAnyH_take (i := 15) (oi := ({ dst := some 51, op := Op.move (Operand.tmp 5), type := 3, pos := _, after := _, guard := _ } : Oper)) (v := undef) rfl (by kernel_rfl) (by kernel_rfl) (by kernel_rfl) (fun _ _ _ h => h) (Or.inr ⟨by rfl, rfl⟩) (by assumption) ?_
                simp only [Act.put, List.setIfInBounds_toArray, List.set_cons_zero, List.set_cons_succ]
                refine wpAnyH_take (i := 16) (oi := ({ dst := some 52, op := Op.indexAddr 23 (Operand.tmp 50) (Operand.tmp 51), type := 0, pos := _, after := _, guard := _ } : Oper)) (v := undef) rfl (by kernel_rfl) (by kernel_rfl) (by kernel_rfl) (fun _ _ _ h => h) (Or.inr ⟨by rfl, rfl⟩) (by assumption) ?_
                simp only [Act.put, List.setIfInBounds_toArray, List.set_cons_zero, List.set_cons_succ]
                refine wpAnyH_take (i := 17) (oi := ({ dst := some 53, op := Op.load 38 (Operand.tmp 52), type := 38, pos := _, after := _, guard := _ } : Oper)) (v := undef) rfl (by kernel_rfl) (by kernel_rfl) (by kernel_rfl) (fun _ _ _ h => h) (Or.inr ⟨by rfl, rfl⟩) (by assumption) ?_
                simp only [Act.put, List.setIfInBounds_toArray, List.set_cons_zero, List.set_cons_succ]
                refine wpAnyH_take (i := 18) (oi := ({ dst := some 54, op := Op.fieldAddr 25 (Operand.tmp 3) 2, type := 0, pos := _, after := _, guard := _ } : Oper)) (v := undef) rfl (by kernel_rfl) (by kernel_rfl) (by kernel_rfl) (fun _ _ _ h => h) (Or.inr ⟨by rfl, rfl⟩) (by assumption) ?_
                simp only [Act.put, List.setIfInBounds_toArray, List.set_cons_zero, List.set_cons_succ]
                refine wpAnyH_take (i := 19) (oi := ({ dst := some 55, op := Op.load 23 (Operand.tmp 54), type := 23, pos := _, after := _, guard := _ } : Oper)) (v := undef) rfl (by kernel_rfl) (by kernel_rfl) (by kernel_rfl) (fun _ _ _ h => h) (Or.inr ⟨by rfl, rfl⟩) (by assumption) ?_
                simp only [Act.put, List.setIfInBounds_toArray, List.set_cons_zero, List.set_cons_succ]
                refine wpAnyH_take (i := 20) (oi := ({ dst := some 56, op := Op.move (Operand.tmp 5), type := 3, pos := _, after := _, guard := _ } : Oper)) (v := undef) rfl (by kernel_rfl) (by kernel_rfl) (by kernel_rfl) (fun _ _ _ h => h) (Or.inr ⟨by rfl, rfl⟩) (by assumption) ?_
                simp only [Act.put, List.setIfInBounds_toArray, List.set_cons_zero, List.set_cons_succ]
                refine wpAnyH_take (i := 21) (oi := ({ dst := some 57, op := Op.indexAddr 23 (Operand.tmp 55) (Operand.tmp 56), type := 0, pos := _, after := _, guard := _ } : Oper)) (v := undef) rfl (by kernel_rfl) (by kernel_rfl) (by kernel_rfl) (fun _ _ _ h => h) (Or.inr ⟨by rfl, rfl⟩) (by assumption) ?_
                simp only [Act.put, List.setIfInBounds_toArray, List.set_cons_zero, List.set_cons_succ]
                refine wpAnyH_take (i := 22) (oi := ({ dst := some 58, op := Op.load 38 (Operand.tmp 57), type := 38, pos := _, after := _, guard := _ } : Oper)) (v := undef) rfl (by kernel_rfl) (by kernel_rfl) (by kernel_rfl) (fun _ _ _ h => h) (Or.inr ⟨by rfl, rfl⟩) (by assumption) ?_
                simp only [Act.put, List.setIfInBounds_toArray, List.set_cons_zero, List.set_cons_succ]
                refine wpAnyH_ready (rs := [23]) (by kernel_rfl) (by simp) ?_
                refine AllReadyH.cons (o := ({ dst := some 59, op := Op.call { callee := Callee.value (Operand.func 53), args := #[Operand.tmp 53, Operand.tmp 58], argTypes := #[38, 38] }, type := 4, pos := _, after := _, guard := _ } : Oper)) rfl (fun K hK => ?_) AllReadyH.nil
                · go_simp
                  refine hK.out _ _ hH1 (fun _ => ?_)
                  clear hK K
                  refine wpAnyH_take (i := 24) (oi := ({ dst := some 60, op := Op.unOp UnOp.not 4 (Operand.tmp 59), type := 4, pos := _, after := _, guard := _ } : Oper)) (v := undef) rfl (by kernel_rfl) (by kernel_rfl) (by kernel_rfl) (fun _ _ _ h => h) (Or.inr ⟨by rfl, rfl⟩) (by assumption) ?_
                  simp only [Act.put, List.setIfInBounds_toArray, List.set_cons_zero, List.set_cons_succ]
                  refine wpAnyH_take (i := 25) (oi := ({ dst := some 61, op := Op.pick (Operand.tmp 48) (Operand.const (Value.bool true)) (Operand.tmp 60), type := 4, pos := _, after := _, guard := _ } : Oper)) (v := ?_) rfl (by kernel_rfl) (by kernel_rfl) (by kernel_rfl) (fun _ _ _ h => h) (Or.inl ⟨by rfl, ?_⟩) (by assumption) ?_
                  rotate_left
                  · (intro wz hSw; (try dsimp only at hSw); go_simp; try with_reducible rfl)
                  simp only [Act.put, List.setIfInBounds_toArray, List.set_cons_zero, List.set_cons_succ]
                  refine wpAnyH_done (by kernel_rfl) ?_ _
                  have HB := hide (HB8.out.trans (b1.out.mono HB8.out.size))
                  clear HS b1 hH1
                  go_wp2
                  go_ret
                  exact ⟨by first | (rw [HF.out]; done) | (simp [HF.out]; done) | (rw [HF.out]; rfl), HB.out⟩
            | true =>
              cases bs with
              | false =>
                have HF : Hid ((allV us ts && allS ss tt) = false) := hide (by rw [HE.out, Bool.false_and, Bool.and_false])
                clear HD HE
                refine wp_region_held_drew (S := fun w' => w'.cell? ⟨q0, 1, none⟩ = some (.slice (some ⟨b1, o1, none⟩) us.length c) ∧ w'.cell? ⟨q1, 1, none⟩ = some (.slice (some ⟨b3, o3, none⟩) ts.length c2) ∧ w'.cell? ⟨b1, o1 + k * 6, none⟩ = some (.int .i64 (up x.s)) ∧ w'.cell? ⟨b1, o1 + k * 6 + 1, none⟩ = some (.bool x.k) ∧ w'.cell? ⟨b1, o1 + k * 6 + 2, none⟩ = some (.int .i64 x.n) ∧ w'.cell? ⟨b1, o1 + k * 6 + 3, none⟩ = some (.int .i64 x.lo) ∧ w'.cell? ⟨b1, o1 + k * 6 + 4, none⟩ = some (.int .i64 x.hi) ∧ w'.cell? ⟨b1, o1 + k * 6 + 5, none⟩ = some (.int .i64 (up x.p)) ∧ w'.cell? ⟨b3, o3 + k * 6, none⟩ = some (.int .i64 (up y.s)) ∧ w'.cell? ⟨b3, o3 + k * 6 + 1, none⟩ = some (.bool y.k) ∧ w'.cell? ⟨b3, o3 + k * 6 + 2, none⟩ = some (.int .i64 y.n) ∧ w'.cell? ⟨b3, o3 + k * 6 + 3, none⟩ = some (.int .i64 y.lo) ∧ w'.cell? ⟨b3, o3 + k * 6 + 4, none⟩ = some (.int .i64 y.hi) ∧ w'.cell? ⟨b3, o3 + k * 6 + 5, none⟩ = some (.int .i64 (up y.p)) ∧ w'.cell? ⟨q0, 2, none⟩ = some (.slice (some ⟨b6, o6, none⟩) ss.length d) ∧ w'.cell? ⟨q1, 2, none⟩ = some (.slice (some ⟨b7, o7, none⟩) tt.length d2) ∧ w'.cell? ⟨b6, o6 + k, none⟩ = some (.slice ai l.length ci) ∧ w'.cell? ⟨b7, o7 + k, none⟩ = some (.slice aj m.length cj)) (by kernel_rfl) (HS.out _ (Below.refl _ _).drew) (fun hH0 => ?_)
                obtain ⟨w0, hw0⟩ : ∃ w0, w0 = W8.drew := ⟨_, rfl⟩
                (try rw [← hw0] at hH0)
                rw [← hw0]
                have b0 : Hid (Below W8.heap.size W8 w0) := hw0 ▸ hide (Below.refl _ _).drew
                clear hw0
                refine wpAnyH_take (i := 0) (oi := ({ dst := some 36, op := Op.fieldAddr 25 (Operand.tmp 2) 1, type := 0, pos := _, after := _, guard := _ } : Oper)) (v := ?_) rfl (by kernel_rfl) (by kernel_rfl) (by kernel_rfl) (fun _ _ _ h => h) (Or.inl ⟨by rfl, ?_⟩) (by assumption) ?_
                rotate_left
                · (intro wz hSw; (try dsimp only at hSw); go_simp; try with_reducible rfl)
                simp only [Act.put, List.setIfInBounds_toArray, List.set_cons_zero, List.set_cons_succ]
                refine wpAnyH_take (i := 1) (oi := ({ dst := some 37, op := Op.load 22 (Operand.tmp 36), type := 22, pos := _, after := _, guard := _ } : Oper)) (v := ?_) rfl (by kernel_rfl) (by kernel_rfl) (by kernel_rfl) (fun _ _ _ h => h) (Or.inl ⟨by rfl, ?_⟩) (by assumption) ?_
                rotate_left
                · (intro wz hSw; (try dsimp only at hSw); go_simp; try with_reducible rfl)
                simp only [Act.put, List.setIfInBounds_toArray, List.set_cons_zero, List.set_cons_succ]
                refine wpAnyH_take (i := 2) (oi := ({ dst := some 38, op := Op.move (Operand.tmp 5), type := 3, pos := _, after := _, guard := _ } : Oper)) (v := ?_) rfl (by kernel_rfl) (by kernel_rfl) (by kernel_rfl) (fun _ _ _ h => h) (Or.inl ⟨by rfl, ?_⟩) (by assumption) ?_
                rotate_left
                · (intro wz hSw; (try dsimp only at hSw); go_simp; try with_reducible rfl)
                simp only [Act.put, List.setIfInBounds_toArray, List.set_cons_zero, List.set_cons_succ]
                refine wpAnyH_take (i := 3) (oi := ({ dst := some 39, op := Op.indexAddr 22 (Operand.tmp 37) (Operand.tmp 38), type := 0, pos := _, after := _, guard := _ } : Oper)) (v := ?_) rfl (by kernel_rfl) (by kernel_rfl) (by kernel_rfl) (fun _ _ _ h => h) (Or.inl ⟨by rfl, ?_⟩) (by assumption) ?_
                rotate_left
                · (intro wz hSw; (try dsimp only at hSw); go_simp; try with_reducible rfl)
                simp only [Act.put, List.setIfInBounds_toArray, List.set_cons_zero, List.set_cons_succ]
                refine wpAnyH_take (i := 4) (oi := ({ dst := some 40, op := Op.load 48 (Operand.tmp 39), type := 48, pos := _, after := _, guard := _ } : Oper)) (v := ?_) rfl (by kernel_rfl) (by kernel_rfl) (by kernel_rfl) (fun _ _ _ h => h) (Or.inl ⟨by rfl, ?_⟩) (by assumption) ?_
                rotate_left
                · (intro wz hSw; (try dsimp only at hSw); go_simp; try with_reducible rfl)
                simp only [Act.put, List.setIfInBounds_toArray, List.set_cons_zero, List.set_cons_succ]
                refine wpAnyH_take (i := 5) (oi := ({ dst := some 41, op := Op.fieldAddr 25 (Operand.tmp 3) 1, type := 0, pos := _, after := _, guard := _ } : Oper)) (v := ?_) rfl (by kernel_rfl) (by kernel_rfl) (by kernel_rfl) (fun _ _ _ h => h) (Or.inl ⟨by rfl, ?_⟩) (by assumption) ?_
                rotate_left
                · (intro wz hSw; (try dsimp only at hSw); go_simp; try with_reducible rfl)
                simp only [Act.put, List.setIfInBounds_toArray, List.set_cons_zero, List.set_cons_succ]
                refine wpAnyH_take (i := 6) (oi := ({ dst := some 42, op := Op.load 22 (Operand.tmp 41), type := 22, pos := _, after := _, guard := _ } : Oper)) (v := ?_) rfl (by kernel_rfl) (by kernel_rfl) (by kernel_rfl) (fun _ _ _ h => h) (Or.inl ⟨by rfl, ?_⟩) (by assumption) ?_
                rotate_left
                · (intro wz hSw; (try dsimp only at hSw); go_simp; try with_reducible rfl)
                simp only [Act.put, List.setIfInBounds_toArray, List.set_cons_zero, List.set_cons_succ]
                refine wpAnyH_take (i := 7) (oi := ({ dst := some 43, op := Op.move (Operand.tmp 5), type := 3, pos := _, after := _, guard := _ } : Oper)) (v := ?_) rfl (by kernel_rfl) (by kernel_rfl) (by kernel_rfl) (fun _ _ _ h => h) (Or.inl ⟨by rfl, ?_⟩) (by assumption) ?_
                rotate_left
                · (intro wz hSw; (try dsimp only at hSw); go_simp; try with_reducible rfl)
                simp only [Act.put, List.setIfInBounds_toArray, List.set_cons_zero, List.set_cons_succ]
                refine wpAnyH_take (i := 8) (oi := ({ dst := some 44, op := Op.indexAddr 22 (Operand.tmp 42) (Operand.tmp 43), type := 0, pos := _, after := _, guard := _ } : Oper)) (v := ?_) rfl (by kernel_rfl) (by kernel_rfl) (by kernel_rfl) (fun _ _ _ h => h) (Or.inl ⟨by rfl, ?_⟩) (by assumption) ?_
                rotate_left
                · (intro wz hSw; (try dsimp only at hSw); go_simp; try with_reducible rfl)
                simp only [Act.put, List.setIfInBounds_toArray, List.set_cons_zero, List.set_cons_succ]
                refine wpAnyH_take (i := 9) (oi := ({ dst := some 45, op := Op.load 48 (Operand.tmp 44), type := 48, pos := _, after := _, guard := _ } : Oper)) (v := ?_) rfl (by kernel_rfl) (by kernel_rfl) (by kernel_rfl) (fun _ _ _ h => h) (Or.inl ⟨by rfl, ?_⟩) (by assumption) ?_
                rotate_left
                · (intro wz hSw; (try dsimp only at hSw); go_simp; try with_reducible rfl)
                simp only [Act.put, List.setIfInBounds_toArray, List.set_cons_zero, List.set_cons_succ]
                refine wpAnyH_ready (rs := [10]) (by kernel_rfl) (by simp) ?_
                refine AllReadyH.cons (o := ({ dst := some 46, op := Op.call { callee := Callee.value (Operand.func 52), args := #[Operand.tmp 40, Operand.tmp 45], argTypes := #[48, 48] }, type := 4, pos := _, after := _, guard := _ } : Oper)) rfl (fun K hK => ?_) AllReadyH.nil
                · go_simp
                  go_at_call 52
                  refine (cG _).mono ?_
                  rintro e w1 ⟨rfl, hb1⟩
                  have b1 := hide (b0.out.trans (hb1.mono b0.out.size))
                  refine hK.out _ _ (HS.out _ b1.out) (fun hH1 => ?_)
                  clear hK K hb1
                  refine wpAnyH_take (i := 11) (oi := ({ dst := some 47, op := Op.unOp UnOp.not 4 (Operand.tmp 46), type := 4, pos := _, after := _, guard := _ } : Oper)) (v := ?_) rfl (by kernel_rfl) (by kernel_rfl) (by kernel_rfl) (fun _ _ _ h => h) (Or.inl ⟨by rfl, ?_⟩) (by assumption) ?_
                  rotate_left
                  · (intro wz hSw; (try dsimp only at hSw); go_simp; try with_reducible rfl)
                  simp only [Act.put, List.setIfInBounds_toArray, List.set_cons_zero, List.set_cons_succ]
                  refine wpAnyH_take (i := 12) (oi := ({ dst := some 48, op := Op.move (Operand.tmp 47), type := 4, pos := _, after := _, guard := _ } : Oper)) (v := ?_) rfl (by kernel_rfl) (by kernel_rfl) (by kernel_rfl) (fun _ _ _ h => h) (Or.inl ⟨by rfl, ?_⟩) (by assumption) ?_
                  rotate_left
                  · (intro wz hSw; (try dsimp only at hSw); go_simp; try with_reducible rfl)
                  simp only [Act.put, List.setIfInBounds_toArray, List.set_cons_zero, List.set_cons_succ]
                  refine wpAnyH_take (i := 13) (oi := ({ dst := some 49, op := Op.fieldAddr 25 (Operand.tmp 2) 2, type := 0, pos := _, after := _, guard := _ } : Oper)) (v := ?_) rfl (by kernel_rfl) (by kernel_rfl) (by kernel_rfl) (fun _ _ _ h => h) (Or.inl ⟨by rfl, ?_⟩) (by assumption) ?_
                  rotate_left
                  · (intro wz hSw; (try dsimp only at hSw); go_simp; try with_reducible rfl)
                  simp only [Act.put, List.setIfInBounds_toArray, List.set_cons_zero, List.set_cons_succ]
                  refine wpAnyH_take (i := 14) (oi := ({ dst := some 50, op := Op.load 23 (Operand.tmp 49), type := 23, pos := _, after := _, guard := _ } : Oper)) (v := ?_) rfl (by kernel_rfl) (by kernel_rfl) (by kernel_rfl) (fun _ _ _ h => h) (Or.inl ⟨by rfl, ?_⟩) (by assumption) ?_
                  rotate_left
                  · (intro wz hSw; (try dsimp only at hSw); go_simp; try with_reducible rfl)
                  simp only [Act.put, List.setIfInBounds_toArray, List.set_cons_zero, List.set_cons_succ]
                  refine wpAnyH_take (i := 15) (oi := ({ dst := some 51, op := Op.move (Operand.tmp 5), type := 3, pos := _, after := _, guard := _ } : Oper)) (v := ?_) rfl (by kernel_rfl) (by kernel_rfl) (by kernel_rfl) (fun _ _ _ h => h) (Or.inl ⟨by rfl, ?_⟩) (by assumption) ?_
                  rotate_left
                  · (intro wz hSw; (try dsimp only at hSw); go_simp; try with_reducible rfl)
                  simp only [Act.put, List.setIfInBounds_toArray, List.set_cons_zero, List.set_cons_succ]
                  refine wpAnyH_take (i := 16) (oi := ({ dst := some 52, op := Op.indexAddr 23 (Operand.tmp 50) (Operand.tmp 51), type := 0, pos := _, after := _, guard := _ } : Oper)) (v := ?_) rfl (by kernel_rfl) (by kernel_rfl) (by kernel_rfl) (fun _ _ _ h => h) (Or.inl ⟨by rfl, ?_⟩) (by assumption) ?_
                  rotate_left
                  · (intro wz hSw; (try dsimp only at hSw); go_simp; try with_reducible rfl)
                  simp only [Act.put, List.setIfInBounds_toArray, List.set_cons_zero, List.set_cons_succ]
                  refine wpAnyH_take (i := 17) (oi := ({ dst := some 53, op := Op.load 38 (Operand.tmp 52), type := 38, pos := _, after := _, guard := _ } : Oper)) (v := ?_) rfl (by kernel_rfl) (by kernel_rfl) (by kernel_rfl) (fun _ _ _ h => h) (Or.inl ⟨by rfl, ?_⟩) (by assumption) ?_
                  rotate_left
                  · (intro wz hSw; (try dsimp only at hSw); go_simp; try with_reducible rfl)
                  simp only [Act.put, List.setIfInBounds_toArray, List.set_cons_zero, List.set_cons_succ]
                  refine wpAnyH_take (i := 18) (oi := ({ dst := some 54, op := Op.fieldAddr 25 (Operand.tmp 3) 2, type := 0, pos := _, after := _, guard := _ } : Oper)) (v := ?_) rfl (by kernel_rfl) (by kernel_rfl) (by kernel_rfl) (fun _ _ _ h => h) (Or.inl ⟨by rfl, ?_⟩) (by assumption) ?_
                  rotate_left
                  · (intro wz hSw; (try dsimp only at hSw); go_simp; try with_reducible rfl)
                  simp only [Act.put, List.setIfInBounds_toArray, List.set_cons_zero, List.set_cons_succ]
                  refine wpAnyH_take (i := 19) (oi := ({ dst := some 55, op := Op.load 23 (Operand.tmp 54), type := 23, pos := _, after := _, guard := _ } : Oper)) (v := ?_) rfl (by kernel_rfl) (by kernel_rfl) (by kernel_rfl) (fun _ _ _ h => h) (Or.inl ⟨by rfl, ?_⟩) (by assumption) ?_
                  rotate_left
                  · (intro wz hSw; (try dsimp only at hSw); go_simp; try with_reducible rfl)
                  simp only [Act.put, List.setIfInBounds_toArray, List.set_cons_zero, List.set_cons_succ]
                  refine wpAnyH_take (i := 20) (oi := ({ dst := some 56, op := Op.move (Operand.tmp 5), type := 3, pos := _, after := _, guard := _ } : Oper)) (v := ?_) rfl (by kernel_rfl) (by kernel_rfl) (by kernel_rfl) (fun _ _ _ h => h) (Or.inl ⟨by rfl, ?_⟩) (by assumption) ?_
                  rotate_left
                  · (intro wz hSw; (try dsimp only at hSw); go_simp; try with_reducible rfl)
                  simp only [Act.put, List.setIfInBounds_toArray, List.set_cons_zero, List.set_cons_succ]
                  refine wpAnyH_take (i := 21) (oi := ({ dst := some 57, op := Op.indexAddr 23 (Operand.tmp 55) (Operand.tmp 56), type := 0, pos := _, after := _, guard := _ } : Oper)) (v := ?_) rfl (by kernel_rfl) (by kernel_rfl) (by kernel_rfl) (fun _ _ _ h => h) (Or.inl ⟨by rfl, ?_⟩) (by assumption) ?_
                  rotate_left
                  · (intro wz hSw; (try dsimp only at hSw); go_simp; try with_reducible rfl)
                  simp only [Act.put, List.setIfInBounds_toArray, List.set_cons_zero, List.set_cons_succ]
                  refine wpAnyH_take (i := 22) (oi := ({ dst := some 58, op := Op.load 38 (Operand.tmp 57), type := 38, pos := _, after := _, guard := _ } : Oper)) (v := ?_) rfl (by kernel_rfl) (by kernel_rfl) (by kernel_rfl) (fun _ _ _ h => h) (Or.inl ⟨by rfl, ?_⟩) (by assumption) ?_
                  rotate_left
                  · (intro wz hSw; (try dsimp only at hSw); go_simp; try with_reducible rfl)
                  simp only [Act.put, List.setIfInBounds_toArray, List.set_cons_zero, List.set_cons_succ]
                  refine wpAnyH_ready (rs := [23]) (by kernel_rfl) (by simp) ?_
                  refine AllReadyH.cons (o := ({ dst := some 59, op := Op.call { callee := Callee.value (Operand.func 53), args := #[Operand.tmp 53, Operand.tmp 58], argTypes := #[38, 38] }, type := 4, pos := _, after := _, guard := _ } : Oper)) rfl (fun K hK => ?_) AllReadyH.nil
                  · go_simp
                    go_at_call 53
                    refine (C6.out w1 b1.out).mono ?_
                    rintro e w2 ⟨hw, rfl⟩
                    obtain rfl := hw.symm
                    refine hK.out _ _ (HS.out _ b1.out) (fun _ => ?_)
                    clear hK K
                    refine wpAnyH_take (i := 24) (oi := ({ dst := some 60, op := Op.unOp UnOp.not 4 (Operand.tmp 59), type := 4, pos := _, after := _, guard := _ } : Oper)) (v := ?_) rfl (by kernel_rfl) (by kernel_rfl) (by kernel_rfl) (fun _ _ _ h => h) (Or.inl ⟨by rfl, ?_⟩) (by assumption) ?_
                    rotate_left
                    · (intro wz hSw; (try dsimp only at hSw); go_simp; try with_reducible rfl)
                    simp only [Act.put, List.setIfInBounds_toArray, List.set_cons_zero, List.set_cons_succ]
                    refine wpAnyH_take (i := 25) (oi := ({ dst := some 61, op := Op.pick (Operand.tmp 48) (Operand.const (Value.bool true)) (Operand.tmp 60), type := 4, pos := _, after := _, guard := _ } : Oper)) (v := ?_) rfl (by kernel_rfl) (by kernel_rfl) (by kernel_rfl) (fun _ _ _ h => h) (Or.inl ⟨by rfl, ?_⟩) (by assumption) ?_
                    rotate_left
                    · (intro wz hSw; (try dsimp only at hSw); go_simp; try with_reducible rfl)
                    simp only [Act.put, List.setIfInBounds_toArray, List.set_cons_zero, List.set_cons_succ]
                    refine wpAnyH_done (by kernel_rfl) ?_ _
                    have HB := hide (HB8.out.trans (b1.out.mono HB8.out.size))
                    clear HS b1 hH1
                    go_wp2
                    go_ret
                    exact ⟨by first | (rw [HF.out]; done) | (simp [HF.out]; done) | (rw [HF.out]; rfl), HB.out⟩
              | true =>
                have HT : Hid (allV (us.drop (k + 1)) (ts.drop (k + 1)) = allV us ts ∧ allS (ss.drop (k + 1)) (tt.drop (k + 1)) = allS ss tt) := hide ⟨by rw [HD.out, Bool.true_and], by rw [HE.out, Bool.true_and]⟩
                clear HD HE
                refine wp_region_held_drew (S := fun w' => w'.cell? ⟨q0, 1, none⟩ = some (.slice (some ⟨b1, o1, none⟩) us.length c) ∧ w'.cell? ⟨q1, 1, none⟩ = some (.slice (some ⟨b3, o3, none⟩) ts.length c2) ∧ w'.cell? ⟨b1, o1 + k * 6, none⟩ = some (.int .i64 (up x.s)) ∧ w'.cell? ⟨b1, o1 + k * 6 + 1, none⟩ = some (.bool x.k) ∧ w'.cell? ⟨b1, o1 + k * 6 + 2, none⟩ = some (.int .i64 x.n) ∧ w'.cell? ⟨b1, o1 + k * 6 + 3, none⟩ = some (.int .i64 x.lo) ∧ w'.cell? ⟨b1, o1 + k * 6 + 4, none⟩ = some (.int .i64 x.hi) ∧ w'.cell? ⟨b1, o1 + k * 6 + 5, none⟩ = some (.int .i64 (up x.p)) ∧ w'.cell? ⟨b3, o3 + k * 6, none⟩ = some (.int .i64 (up y.s)) ∧ w'.cell? ⟨b3, o3 + k * 6 + 1, none⟩ = some (.bool y.k) ∧ w'.cell? ⟨b3, o3 + k * 6 + 2, none⟩ = some (.int .i64 y.n) ∧ w'.cell? ⟨b3, o3 + k * 6 + 3, none⟩ = some (.int .i64 y.lo) ∧ w'.cell? ⟨b3, o3 + k * 6 + 4, none⟩ = some (.int .i64 y.hi) ∧ w'.cell? ⟨b3, o3 + k * 6 + 5, none⟩ = some (.int .i64 (up y.p)) ∧ w'.cell? ⟨q0, 2, none⟩ = some (.slice (some ⟨b6, o6, none⟩) ss.length d) ∧ w'.cell? ⟨q1, 2, none⟩ = some (.slice (some ⟨b7, o7, none⟩) tt.length d2) ∧ w'.cell? ⟨b6, o6 + k, none⟩ = some (.slice ai l.length ci) ∧ w'.cell? ⟨b7, o7 + k, none⟩ = some (.slice aj m.length cj)) (by kernel_rfl) (HS.out _ (Below.refl _ _).drew) (fun hH0 => ?_)
                obtain ⟨w0, hw0⟩ : ∃ w0, w0 = W8.drew := ⟨_, rfl⟩
                (try rw [← hw0] at hH0)
                rw [← hw0]
                have b0 : Hid (Below W8.heap.size W8 w0) := hw0 ▸ hide (Below.refl _ _).drew
                clear hw0
                refine wpAnyH_take (i := 0) (oi := ({ dst := some 36, op := Op.fieldAddr 25 (Operand.tmp 2) 1, type := 0, pos := _, after := _, guard := _ } : Oper)) (v := ?_) rfl (by kernel_rfl) (by kernel_rfl) (by kernel_rfl) (fun _ _ _ h => h) (Or.inl ⟨by rfl, ?_⟩) (by assumption) ?_
                rotate_left
                · (intro wz hSw; (try dsimp only at hSw); go_simp; try with_reducible rfl)
                simp only [Act.put, List.setIfInBounds_toArray, List.set_cons_zero, List.set_cons_succ]
                refine wpAnyH_take (i := 1) (oi := ({ dst := some 37, op := Op.load 22 (Operand.tmp 36), type := 22, pos := _, after := _, guard := _ } : Oper)) (v := ?_) rfl (by kernel_rfl) (by kernel_rfl) (by kernel_rfl) (fun _ _ _ h => h) (Or.inl ⟨by rfl, ?_⟩) (by assumption) ?_
                rotate_left
                · (intro wz hSw; (try dsimp only at hSw); go_simp; try with_reducible rfl)
                simp only [Act.put, List.setIfInBounds_toArray, List.set_cons_zero, List.set_cons_succ]
                refine wpAnyH_take (i := 2) (oi := ({ dst := some 38, op := Op.move (Operand.tmp 5), type := 3, pos := _, after := _, guard := _ } : Oper)) (v := ?_) rfl (by kernel_rfl) (by kernel_rfl) (by kernel_rfl) (fun _ _ _ h => h) (Or.inl ⟨by rfl, ?_⟩) (by assumption) ?_
                rotate_left
                · (intro wz hSw; (try dsimp only at hSw); go_simp; try with_reducible rfl)
                simp only [Act.put, List.setIfInBounds_toArray, List.set_cons_zero, List.set_cons_succ]
                refine wpAnyH_take (i := 3) (oi := ({ dst := some 39, op := Op.indexAddr 22 (Operand.tmp 37) (Operand.tmp 38), type := 0, pos := _, after := _, guard := _ } : Oper)) (v := ?_) rfl (by kernel_rfl) (by kernel_rfl) (by kernel_rfl) (fun _ _ _ h => h) (Or.inl ⟨by rfl, ?_⟩) (by assumption) ?_
                rotate_left
                · (intro wz hSw; (try dsimp only at hSw); go_simp; try with_reducible rfl)
                simp only [Act.put, List.setIfInBounds_toArray, List.set_cons_zero, List.set_cons_succ]
                refine wpAnyH_take (i := 4) (oi := ({ dst := some 40, op := Op.load 48 (Operand.tmp 39), type := 48, pos := _, after := _, guard := _ } : Oper)) (v := ?_) rfl (by kernel_rfl) (by kernel_rfl) (by kernel_rfl) (fun _ _ _ h => h) (Or.inl ⟨by rfl, ?_⟩) (by assumption) ?_
                rotate_left
                · (intro wz hSw; (try dsimp only at hSw); go_simp; try with_reducible rfl)
                simp only [Act.put, List.setIfInBounds_toArray, List.set_cons_zero, List.set_cons_succ]
                refine wpAnyH_take (i := 5) (oi := ({ dst := some 41, op := Op.fieldAddr 25 (Operand.tmp 3) 1, type := 0, pos := _, after := _, guard := _ } : Oper)) (v := ?_) rfl (by kernel_rfl) (by kernel_rfl) (by kernel_rfl) (fun _ _ _ h => h) (Or.inl ⟨by rfl, ?_⟩) (by assumption) ?_
                rotate_left
                · (intro wz hSw; (try dsimp only at hSw); go_simp; try with_reducible rfl)
                simp only [Act.put, List.setIfInBounds_toArray, List.set_cons_zero, List.set_cons_succ]
                refine wpAnyH_take (i := 6) (oi := ({ dst := some 42, op := Op.load 22 (Operand.tmp 41), type := 22, pos := _, after := _, guard := _ } : Oper)) (v := ?_) rfl (by kernel_rfl) (by kernel_rfl) (by kernel_rfl) (fun _ _ _ h => h) (Or.inl ⟨by rfl, ?_⟩) (by assumption) ?_
                rotate_left
                · (intro wz hSw; (try dsimp only at hSw); go_simp; try with_reducible rfl)
                simp only [Act.put, List.setIfInBounds_toArray, List.set_cons_zero, List.set_cons_succ]
                refine wpAnyH_take (i := 7) (oi := ({ dst := some 43, op := Op.move (Operand.tmp 5), type := 3, pos := _, after := _, guard := _ } : Oper)) (v := ?_) rfl (by kernel_rfl) (by kernel_rfl) (by kernel_rfl) (fun _ _ _ h => h) (Or.inl ⟨by rfl, ?_⟩) (by assumption) ?_
                rotate_left
                · (intro wz hSw; (try dsimp only at hSw); go_simp; try with_reducible rfl)
                simp only [Act.put, List.setIfInBounds_toArray, List.set_cons_zero, List.set_cons_succ]
                refine wpAnyH_take (i := 8) (oi := ({ dst := some 44, op := Op.indexAddr 22 (Operand.tmp 42) (Operand.tmp 43), type := 0, pos := _, after := _, guard := _ } : Oper)) (v := ?_) rfl (by kernel_rfl) (by kernel_rfl) (by kernel_rfl) (fun _ _ _ h => h) (Or.inl ⟨by rfl, ?_⟩) (by assumption) ?_
                rotate_left
                · (intro wz hSw; (try dsimp only at hSw); go_simp; try with_reducible rfl)
                simp only [Act.put, List.setIfInBounds_toArray, List.set_cons_zero, List.set_cons_succ]
                refine wpAnyH_take (i := 9) (oi := ({ dst := some 45, op := Op.load 48 (Operand.tmp 44), type := 48, pos := _, after := _, guard := _ } : Oper)) (v := ?_) rfl (by kernel_rfl) (by kernel_rfl) (by kernel_rfl) (fun _ _ _ h => h) (Or.inl ⟨by rfl, ?_⟩) (by assumption) ?_
                rotate_left
                · (intro wz hSw; (try dsimp only at hSw); go_simp; try with_reducible rfl)
                simp only [Act.put, List.setIfInBounds_toArray, List.set_cons_zero, List.set_cons_succ]
                refine wpAnyH_ready (rs := [10]) (by kernel_rfl) (by simp) ?_
                refine AllReadyH.cons (o := ({ dst := some 46, op := Op.call { callee := Callee.value (Operand.func 52), args := #[Operand.tmp 40, Operand.tmp 45], argTypes := #[48, 48] }, type := 4, pos := _, after := _, guard := _ } : Oper)) rfl (fun K hK => ?_) AllReadyH.nil
                · go_simp
                  go_at_call 52
                  refine (cG _).mono ?_
                  rintro e w1 ⟨rfl, hb1⟩
                  have b1 := hide (b0.out.trans (hb1.mono b0.out.size))
                  refine hK.out _ _ (HS.out _ b1.out) (fun hH1 => ?_)
                  clear hK K hb1
                  refine wpAnyH_take (i := 11) (oi := ({ dst := some 47, op := Op.unOp UnOp.not 4 (Operand.tmp 46), type := 4, pos := _, after := _, guard := _ } : Oper)) (v := ?_) rfl (by kernel_rfl) (by kernel_rfl) (by kernel_rfl) (fun _ _ _ h => h) (Or.inl ⟨by rfl, ?_⟩) (by assumption) ?_
                  rotate_left
                  · (intro wz hSw; (try dsimp only at hSw); go_simp; try with_reducible rfl)
                  simp only [Act.put, List.setIfInBounds_toArray, List.set_cons_zero, List.set_cons_succ]
                  refine wpAnyH_take (i := 12) (oi := ({ dst := some 48, op := Op.move (Operand.tmp 47), type := 4, pos := _, after := _, guard := _ } : Oper)) (v := ?_) rfl (by kernel_rfl) (by kernel_rfl) (by kernel_rfl) (fun _ _ _ h => h) (Or.inl ⟨by rfl, ?_⟩) (by assumption) ?_
                  rotate_left
                  · (intro wz hSw; (try dsimp only at hSw); go_simp; try with_reducible rfl)
                  simp only [Act.put, List.setIfInBounds_toArray, List.set_cons_zero, List.set_cons_succ]
                  refine wpAnyH_take (i := 13) (oi := ({ dst := some 49, op := Op.fieldAddr 25 (Operand.tmp 2) 2, type := 0, pos := _, after := _, guard := _ } : Oper)) (v := ?_) rfl (by kernel_rfl) (by kernel_rfl) (by kernel_rfl) (fun _ _ _ h => h) (Or.inl ⟨by rfl, ?_⟩) (by assumption) ?_
                  rotate_left
                  · (intro wz hSw; (try dsimp only at hSw); go_simp; try with_reducible rfl)
                  simp only [Act.put, List.setIfInBounds_toArray, List.set_cons_zero, List.set_cons_succ]
                  refine wpAnyH_take (i := 14) (oi := ({ dst := some 50, op := Op.load 23 (Operand.tmp 49), type := 23, pos := _, after := _, guard := _ } : Oper)) (v := ?_) rfl (by kernel_rfl) (by kernel_rfl) (by kernel_rfl) (fun _ _ _ h => h) (Or.inl ⟨by rfl, ?_⟩) (by assumption) ?_
                  rotate_left
                  · (intro wz hSw; (try dsimp only at hSw); go_simp; try with_reducible rfl)
                  simp only [Act.put, List.setIfInBounds_toArray, List.set_cons_zero, List.set_cons_succ]
                  refine wpAnyH_take (i := 15) (oi := ({ dst := some 51, op := Op.move (Operand.tmp 5), type := 3, pos := _, after := _, guard := _ } : Oper)) (v := ?_) rfl (by kernel_rfl) (by kernel_rfl) (by kernel_rfl) (fun _ _ _ h => h) (Or.inl ⟨by rfl, ?_⟩) (by assumption) ?_
                  rotate_left
                  · (intro wz hSw; (try dsimp only at hSw); go_simp; try with_reducible rfl)
                  simp only [Act.put, List.setIfInBounds_toArray, List.set_cons_zero, List.set_cons_succ]
                  refine wpAnyH_take (i := 16) (oi := ({ dst := some 52, op := Op.indexAddr 23 (Operand.tmp 50) (Operand.tmp 51), type := 0, pos := _, after := _, guard := _ } : Oper)) (v := ?_) rfl (by kernel_rfl) (by kernel_rfl) (by kernel_rfl) (fun _ _ _ h => h) (Or.inl ⟨by rfl, ?_⟩) (by assumption) ?_
                  rotate_left
                  · (intro wz hSw; (try dsimp only at hSw); go_simp; try with_reducible rfl)
                  simp only [Act.put, List.setIfInBounds_toArray, List.set_cons_zero, List.set_cons_succ]
                  refine wpAnyH_take (i := 17) (oi := ({ dst := some 53, op := Op.load 38 (Operand.tmp 52), type := 38, pos := _, after := _, guard := _ } : Oper)) (v := ?_) rfl (by kernel_rfl) (by kernel_rfl) (by kernel_rfl) (fun _ _ _ h => h) (Or.inl ⟨by rfl, ?_⟩) (by assumption) ?_
                  rotate_left
                  · (intro wz hSw; (try dsimp only at hSw); go_simp; try with_reducible rfl)
                  simp only [Act.put, List.setIfInBounds_toArray, List.set_cons_zero, List.set_cons_succ]
                  refine wpAnyH_take (i := 18) (oi := ({ dst := some 54, op := Op.fieldAddr 25 (Operand.tmp 3) 2, type := 0, pos := _, after := _, guard := _ } : Oper)) (v := ?_) rfl (by kernel_rfl) (by kernel_rfl) (by kernel_rfl) (fun _ _ _ h => h) (Or.inl ⟨by rfl, ?_⟩) (by assumption) ?_
                  rotate_left
                  · (intro wz hSw; (try dsimp only at hSw); go_simp; try with_reducible rfl)
                  simp only [Act.put, List.setIfInBounds_toArray, List.set_cons_zero, List.set_cons_succ]
                  refine wpAnyH_take (i := 19) (oi := ({ dst := some 55, op := Op.load 23 (Operand.tmp 54), type := 23, pos := _, after := _, guard := _ } : Oper)) (v := ?_) rfl (by kernel_rfl) (by kernel_rfl) (by kernel_rfl) (fun _ _ _ h => h) (Or.inl ⟨by rfl, ?_⟩) (by assumption) ?_
                  rotate_left
                  · (intro wz hSw; (try dsimp only at hSw); go_simp; try with_reducible rfl)
                  simp only [Act.put, List.setIfInBounds_toArray, List.set_cons_zero, List.set_cons_succ]
                  refine wpAnyH_take (i := 20) (oi := ({ dst := some 56, op := Op.move (Operand.tmp 5), type := 3, pos := _, after := _, guard := _ } : Oper)) (v := ?_) rfl (by kernel_rfl) (by kernel_rfl) (by kernel_rfl) (fun _ _ _ h => h) (Or.inl ⟨by rfl, ?_⟩) (by assumption) ?_
                  rotate_left
                  · (intro wz hSw; (try dsimp only at hSw); go_simp; try with_reducible rfl)
                  simp only [Act.put, List.setIfInBounds_toArray, List.set_cons_zero, List.set_cons_succ]
                  refine wpAnyH_take (i := 21) (oi := ({ dst := some 57, op := Op.indexAddr 23 (Operand.tmp 55) (Operand.tmp 56), type := 0, pos := _, after := _, guard := _ } : Oper)) (v := ?_) rfl (by kernel_rfl) (by kernel_rfl) (by kernel_rfl) (fun _ _ _ h => h) (Or.inl ⟨by rfl, ?_⟩) (by assumption) ?_
                  rotate_left
                  · (intro wz hSw; (try dsimp only at hSw); go_simp; try with_reducible rfl)
                  simp only [Act.put, List.setIfInBounds_toArray, List.set_cons_zero, List.set_cons_succ]
                  refine wpAnyH_take (i := 22) (oi := ({ dst := some 58, op := Op.load 38 (Operand.tmp 57), type := 38, pos := _, after := _, guard := _ } : Oper)) (v := ?_) rfl (by kernel_rfl) (by kernel_rfl) (by kernel_rfl) (fun _ _ _ h => h) (Or.inl ⟨by rfl, ?_⟩) (by assumption) ?_
                  rotate_left
                  · (intro wz hSw; (try dsimp only at hSw); go_simp; try with_reducible rfl)
                  simp only [Act.put, List.setIfInBounds_toArray, List.set_cons_zero, List.set_cons_succ]
                  refine wpAnyH_ready (rs := [23]) (by kernel_rfl) (by simp) ?_
                  refine AllReadyH.cons (o := ({ dst := some 59, op := Op.call { callee := Callee.value (Operand.func 53), args := #[Operand.tmp 53, Operand.tmp 58], argTypes := #[38, 38] }, type := 4, pos := _, after := _, guard := _ } : Oper)) rfl (fun K hK => ?_) AllReadyH.nil
                  · go_simp
                    go_at_call 53
                    refine (C6.out w1 b1.out).mono ?_
                    rintro e w2 ⟨hw, rfl⟩
                    obtain rfl := hw.symm
                    refine hK.out _ _ (HS.out _ b1.out) (fun _ => ?_)
                    clear hK K
                    refine wpAnyH_take (i := 24) (oi := ({ dst := some 60, op := Op.unOp UnOp.not 4 (Operand.tmp 59), type := 4, pos := _, after := _, guard := _ } : Oper)) (v := ?_) rfl (by kernel_rfl) (by kernel_rfl) (by kernel_rfl) (fun _ _ _ h => h) (Or.inl ⟨by rfl, ?_⟩) (by assumption) ?_
                    rotate_left
                    · (intro wz hSw; (try dsimp only at hSw); go_simp; try with_reducible rfl)
                    simp only [Act.put, List.setIfInBounds_toArray, List.set_cons_zero, List.set_cons_succ]
                    refine wpAnyH_take (i := 25) (oi := ({ dst := some 61, op := Op.pick (Operand.tmp 48) (Operand.const (Value.bool true)) (Operand.tmp 60), type := 4, pos := _, after := _, guard := _ } : Oper)) (v := ?_) rfl (by kernel_rfl) (by kernel_rfl) (by kernel_rfl) (fun _ _ _ h => h) (Or.inl ⟨by rfl, ?_⟩) (by assumption) ?_
                    rotate_left
                    · (intro wz hSw; (try dsimp only at hSw); go_simp; try with_reducible rfl)
                    simp only [Act.put, List.setIfInBounds_toArray, List.set_cons_zero, List.set_cons_succ]
                    refine wpAnyH_done (by kernel_rfl) ?_ _
                    have HB := hide (And.intro (HB8.out.trans (b1.out.mono HB8.out.size)) (HU8.out.trans (b1.out.mono HU8.out.size)))
                    clear HS b1
                    go_wp2
                    exact ⟨⟨k + 1, by simp, by omega, ⟨HB.out.1, HB.out.2, HT.out⟩⟩, by simp [intOf]; omega⟩
          · have hke : k = us.length := by omega
            subst hke
            have HF : Hid ((allV us ts && allS ss tt) = true) := hide (by
              rw [← h4.out.2.2.1, ← h4.out.2.2.2, List.drop_of_length_le (Nat.le_refl _), List.drop_of_length_le (by have := HLn.out; omega), List.drop_of_length_le (by have := HLS.out; omega), List.drop_of_length_le (by have := HLS.out; have := HLn.out; omega)]; rfl)
            have HB8 := hide h4.out.1
            clear h4
            go_wp2_with (go_at_call 51; refine (cR1 _).mono ?_; rintro e wA ⟨rfl, hA⟩; replace hA := hide hA; clear e0 e1 e2 cR1)
            go_ret
            exact ⟨by first | (rw [HF.out]; rfl) | simp [HF.out], HB8.out.trans (hA.out.mono HB8.out.size)⟩
      · have b1' : ((us.length : Int) != ts.length) = true := by rw [bne_iff_ne]; omega
        rw [allV_len us ts hm, Bool.false_and]
        clear hm
        go_enter Try.func19, Try.ntmps19
        go_wp2
        go_ret
        exact ⟨by simp, (by repeat (first | exact Below.refl _ _ | (refine Below.alloc ?_ (by first | omega | (simp; done) | (simp; omega)) _)))⟩
theorem withinr_S {v1 v2 : Value} {x y : VS} {n m : Nat} {w : World} (h1 : Rs w v1 x.raw) (h2 : Rs w v2 y.raw) (k1 : VOk n x) (k2 : VOk m y) (hn : n ≤ 5000) (hm : m ≤ 5000) :
    Calls Try.prog 19 #[v1, v2] w fun e w' => e = .returned (.bool (withinVS x y)) ∧ Below w.heap.size w w' := by
  obtain ⟨a, c, b, d, rfl, e1, e2, -⟩ := h1
  obtain ⟨a2, c2, b2, d2, rfl, f1, f2, -⟩ := h2
  obtain ⟨r, us, ss⟩ := x
  obtain ⟨r2, ts, tt⟩ := y
  have t := withinr_S0 a b a2 b2 c d c2 d2 r r2 us ts ss tt w e1 e2 f1 f2 k1.le k2.le k1.len k2.len (fun l hl => by have := k1.up l hl; exact ⟨this.1, by omega⟩) (fun l hl => by have := k2.up l hl; exact ⟨this.1, by omega⟩)
  dsimp only [VS.raw] at *
  rw [List.length_map, List.length_map]
  exact t
end Go.Proofs.Ytmhicllhjiglkaa
