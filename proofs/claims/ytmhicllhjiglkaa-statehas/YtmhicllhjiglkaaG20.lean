import Derived.Test.YtmhicllhjiglkaaG18
import Derived.Test.YtmhicllhjiglkaaG01
import Derived.Deep.RegionHeld3
import Derived.Test.YtmhicllhjiglkaaG04
import Derived.Test.YtmhicllhjiglkaaG19
namespace Go.Proofs.Ytmhicllhjiglkaa
open Go.RowKit
set_option maxRecDepth 100000 in
set_option maxHeartbeats 4000000 in
theorem bwr_any (xs ys : List Int) (a b : Option Addr) (c d : Nat) (w : World) (hr : Ri w a xs) (hs : Ri w b ys) (hl1 : xs.length ≤ 100000) (hl2 : ys.length ≤ 100000) :
    Calls Try.prog 53 #[.slice a xs.length c, .slice b ys.length d] w fun e w' => w' = w ∧ e = .returned (.bool (xs.all (fun x => hasL ys x))) := by
  have HR := hide hr
  have cS := fun x => brhas_any ys b d x w hs (by omega)
  clear hr hs
  have i1 : (xs.length : Int) ≤ 100000 := by omega
  go_enter Try.func53, Try.ntmps53
  go_wp2_with fail
  go_loop [5] (fun sk => ∃ k : Nat, sk = .int .i64 k ∧ k ≤ xs.length ∧ Hid ((xs.drop k).all (fun x => hasL ys x) = xs.all (fun x => hasL ys x))) (fun sk => xs.length - (intOf sk).toNat)
  case atStart => exact ⟨0, rfl, Nat.zero_le _, rfl⟩
  case round =>
    obtain ⟨k, rfl, hk, h4⟩ := hrel
    by_cases hkv : k < xs.length
    · have hkv2 : (k : Int) < xs.length := by omega
      obtain ⟨y, hY⟩ : ∃ y, xs[k]? = some y := ⟨_, List.getElem?_eq_getElem hkv⟩
      obtain ⟨b2, o2, rfl, f5⟩ := HR.out k y hY
      have cY := cS y
      have HD : Hid (xs.all (fun x => hasL ys x) = (hasL ys y && (xs.drop (k + 1)).all (fun x => hasL ys x))) := hide (by
        rw [← h4.out, List.drop_eq_getElem_cons hkv, List.all_cons]
        obtain ⟨_, e1⟩ := List.getElem?_eq_some_iff.1 hY
        rw [e1])
      clear hY h4 cS
      generalize hasL ys y = bv at *
      cases bv with
      | false =>
        go_wp2_with (go_at_call 102; refine cY.mono ?_; rintro e w' ⟨hw, rfl⟩; obtain rfl := hw.symm; clear cY)
        go_ret
        exact ⟨rfl, by rw [HD.out]; rfl⟩
      | true =>
        have HE : Hid (xs.all (fun x => hasL ys x) = (xs.drop (k + 1)).all (fun x => hasL ys x)) := hide (by rw [HD.out, Bool.true_and])
        clear HD
        go_wp2_with (go_at_call 102; refine cY.mono ?_; rintro e w' ⟨hw, rfl⟩; obtain rfl := hw.symm; clear cY)
        exact ⟨⟨k + 1, by simp, by omega, HE.out.symm⟩, by simp [intOf]; omega⟩
    · have hke : k = xs.length := by omega
      subst hke
      have HE : Hid (xs.all (fun x => hasL ys x) = true) := hide (by rw [← h4.out, List.drop_of_length_le (Nat.le_refl _)]; rfl)
      clear cS
      go_wp2
      go_ret
      exact ⟨rfl, by rw [HE.out]; rfl⟩
theorem one_within (y : Int) (ys : List Int) (n : Nat) (b : Option Addr) (d : Nat) (w : World) (hr : w.cell? ⟨n, 0, none⟩ = some (.int .i64 y)) (hs : Ri w b ys) (hl2 : ys.length ≤ 100000) :
    Calls Try.prog 53 #[.slice (some ⟨n, 0, none⟩) 1 1, .slice b ys.length d] w fun e w' => w' = w ∧ e = .returned (.bool (hasL ys y)) := by
  have t := bwr_any [y] ys (some ⟨n, 0, none⟩) b 1 d w (fun i x h => by
    cases i with
    | zero => obtain rfl : y = x := by simpa using h
              exact ⟨n, 0, rfl, hr⟩
    | succ i => simp at h) hs (by simp) hl2
  rw [show [y].all (fun x => hasL ys x) = hasL ys y from by simp] at t
  exact t
set_option maxRecDepth 100000 in
set_option maxHeartbeats 8000000 in
theorem hasr_S0 (a b a2 b2 : Option Addr) (c d c2 d2 : Nat) (r : Bool) (us : List V) (ss : List (List Int)) (regs last : List Int) (w : World) (e1 : RV w a (us.map V.raw)) (e2 : RR w b ss) (f1 : Ri w a2 regs) (f2 : Ri w b2 last) (hi1 : ∀ l ∈ ss, l.length ≤ 100000) (hri : ∀ n ∈ regs, i64 n) (hl1 : regs.length ≤ 100000) (hl2 : last.length ≤ 100000) :
    Calls Try.prog 36 #[.agg #[.bool r, .slice a us.length c, .slice b ss.length d], .slice a2 regs.length c2, .slice b2 last.length d2] w fun e w' => e = .returned (.bool (hasVS ⟨r, us, ss⟩ regs last)) ∧ Below w.heap.size w w' := by
  have HE1 := hide e1
  have HE2 := hide e2
  have HF1 := hide f1
  have HF2 := hide f2
  have HI1 := hide hi1
  have HRI := hide hri
  clear e1 e2 f1 f2 hi1 hri
  have i1 : (regs.length : Int) ≤ 100000 := by omega
  have i2 : (last.length : Int) ≤ 100000 := by omega
  cases r with
  | false =>
    rw [show hasVS ⟨false, us, ss⟩ regs last = false from rfl]
    go_enter Try.func36, Try.ntmps36
    go_upto_region 1 with fail
    go_name_world W hW
    obtain ⟨B0, -, u⟩ := box1 w _ _ _ _ W hW
    have HU := hide u
    have x0 := B0.c0
    clear hW B0 u
    go_wp2
    go_ret
    exact ⟨by simp, HU.out⟩
  | true =>
    rw [show hasVS ⟨true, us, ss⟩ regs last = (hasVs us regs && hasSs ss last) from rfl]
    by_cases hl : regs.length = us.length
    · have hb0 : ((regs.length : Int) != us.length) = false := by simp [hl]
      by_cases hm : last.length = ss.length
      · have hb1 : ((last.length : Int) != ss.length) = false := by simp [hm]
        have HL := hide (And.intro hl hm)
        clear hl hm
        go_enter Try.func36, Try.ntmps36
        go_upto_region 1 with fail
        go_name_world W hW
        obtain ⟨q0, h0⟩ : ∃ z9, z9 = w.heap.size := ⟨_, rfl⟩
        rw [← h0]
        obtain ⟨B0, -, u⟩ := box1 w _ _ _ _ W hW
        rw [← h0] at B0
        have HU := hide (And.intro B0 u)
        have x0 := B0.c0
        have x1 := B0.c1
        have x2 := B0.c2
        clear hW h0 B0 u
        go_wp2_with fail
        clear hb0 hb1 x0 x1 x2
        go_loopw [7] (fun sk wr => ∃ k : Nat, sk = .int .i64 k ∧ k ≤ regs.length ∧ Hid (Below w.heap.size w wr ∧ Below W.heap.size W wr ∧ hasVs (us.drop k) (regs.drop k) = hasVs us regs)) (fun sk _ => regs.length - (intOf sk).toNat)
        case atStart => exact ⟨0, rfl, Nat.zero_le _, HU.out.2, Below.refl _ _, rfl⟩
        case round =>
          obtain ⟨k, rfl, hk, h4⟩ := hrel
          by_cases hkv : k < regs.length
          · have hkv2 : (k : Int) < regs.length := by omega
            have hkt : k < us.length := by have := HL.out.1; omega
            have hkt2 : (k : Int) < us.length := by omega
            obtain ⟨y, hyk⟩ : ∃ y, regs[k]? = some y := ⟨_, List.getElem?_eq_getElem hkv⟩
            obtain ⟨b3, o3, rfl, hy6⟩ := HF1.out k y hyk
            obtain ⟨b1, o1, x0, hX, rfl, hx6⟩ := HE1.out.at (m := k) (by rw [List.length_map]; exact hkt)
            obtain ⟨x, hxk, rfl⟩ : ∃ x, us[k]? = some x ∧ x.raw = x0 := by rw [List.getElem?_map, Option.map_eq_some_iff] at hX; exact hX
            have HY := hide (HRI.out y (List.mem_of_getElem? hyk))
            have HD : Hid (hasVs us regs = (hasV x y && hasVs (us.drop (k + 1)) (regs.drop (k + 1)))) := hide (by
              rw [← h4.out.2.2, List.drop_eq_getElem_cons hkv, List.drop_eq_getElem_cons hkt]
              obtain ⟨_, e1⟩ := List.getElem?_eq_some_iff.1 hxk
              obtain ⟨_, e2⟩ := List.getElem?_eq_some_iff.1 hyk
              rw [e1, e2]; rfl)
            have HS : Hid (∀ w', Below wr.heap.size wr w' → (w'.cell? ⟨q0, 1, none⟩ = some (.slice (some ⟨b1, o1, none⟩) us.length c) ∧ w'.cell? ⟨b1, o1 + k * 6, none⟩ = some (.int .i64 (up x.s)) ∧ w'.cell? ⟨b1, o1 + k * 6 + 1, none⟩ = some (.bool x.k) ∧ w'.cell? ⟨b1, o1 + k * 6 + 2, none⟩ = some (.int .i64 x.n) ∧ w'.cell? ⟨b1, o1 + k * 6 + 3, none⟩ = some (.int .i64 x.lo) ∧ w'.cell? ⟨b1, o1 + k * 6 + 4, none⟩ = some (.int .i64 x.hi) ∧ w'.cell? ⟨b1, o1 + k * 6 + 5, none⟩ = some (.int .i64 (up x.p)) ∧ w'.cell? ⟨b3, o3 + k, none⟩ = some (.int .i64 y))) := fun w' h => by
              have t0 := (HU.out.1.keep h4.out.2.1).keep h
              have t1 := (hx6.keep h4.out.1).keep h
              have g := h4.out.1.trans (h.mono h4.out.1.size)
              have t2 := (g.cell (p := ⟨b3, o3 + k, none⟩) (World.block_lt_of_cell? w _ hy6)).trans hy6
              exact ⟨t0.c1, t1.c0, t1.c1, t1.c2, t1.c3, t1.c4, t1.c5, t2⟩
            have C5 : Hid (∀ w', Calls Try.prog 75 #[.agg #[.int .i64 (up x.s), .bool x.k, .int .i64 x.n, .int .i64 x.lo, .int .i64 x.hi, .int .i64 (up x.p)], .int .i64 y] w' fun e w'' => e = .returned (.bool (hasV x y)) ∧ Below w'.heap.size w' w'') := hide (fun w' => hasr_V x y w' HY.out)
            clear hX hx6 hy6 hxk hyk
            generalize hasV x y = bv at *
            go_upto_region 6 with fail
            refine wp_region_held_drew (S := fun w' => w'.cell? ⟨q0, 1, none⟩ = some (.slice (some ⟨b1, o1, none⟩) us.length c) ∧ w'.cell? ⟨b1, o1 + k * 6, none⟩ = some (.int .i64 (up x.s)) ∧ w'.cell? ⟨b1, o1 + k * 6 + 1, none⟩ = some (.bool x.k) ∧ w'.cell? ⟨b1, o1 + k * 6 + 2, none⟩ = some (.int .i64 x.n) ∧ w'.cell? ⟨b1, o1 + k * 6 + 3, none⟩ = some (.int .i64 x.lo) ∧ w'.cell? ⟨b1, o1 + k * 6 + 4, none⟩ = some (.int .i64 x.hi) ∧ w'.cell? ⟨b1, o1 + k * 6 + 5, none⟩ = some (.int .i64 (up x.p)) ∧ w'.cell? ⟨b3, o3 + k, none⟩ = some (.int .i64 y)) (by kernel_rfl) (HS.out _ (Below.refl _ _).drew) (fun hH0 => ?_)
            obtain ⟨w0, hw0⟩ : ∃ w0, w0 = wr.drew := ⟨_, rfl⟩
            (try rw [← hw0] at hH0)
            rw [← hw0]
            have b0 : Hid (Below wr.heap.size wr w0) := hw0 ▸ hide (Below.refl _ _).drew
            clear hw0
            refine wpAnyH_take (i := 0) (oi := ({ dst := some 34, op := Op.fieldAddr 25 (Operand.tmp 3) 1, type := 0, pos := "ref.go:132", after := #[], guard := none } : Oper)) (v := ?_) rfl (by kernel_rfl) (by kernel_rfl) (by kernel_rfl) (fun _ _ _ h => h) (Or.inl ⟨by rfl, ?_⟩) (by assumption) ?_
            rotate_left
            · (intro wz hSw; (try dsimp only at hSw); go_simp; try with_reducible rfl)
            simp only [Act.put, List.setIfInBounds_toArray, List.set_cons_zero, List.set_cons_succ]
            refine wpAnyH_take (i := 1) (oi := ({ dst := some 35, op := Op.load 22 (Operand.tmp 34), type := 22, pos := "ref.go:132", after := #[{ on := 0, ground := Ground.data }], guard := none } : Oper)) (v := ?_) rfl (by kernel_rfl) (by kernel_rfl) (by kernel_rfl) (fun _ _ _ h => h) (Or.inl ⟨by rfl, ?_⟩) (by assumption) ?_
            rotate_left
            · (intro wz hSw; (try dsimp only at hSw); go_simp; try with_reducible rfl)
            simp only [Act.put, List.setIfInBounds_toArray, List.set_cons_zero, List.set_cons_succ]
            refine wpAnyH_take (i := 2) (oi := ({ dst := some 36, op := Op.move (Operand.tmp 7), type := 3, pos := "ref.go:132", after := #[], guard := none } : Oper)) (v := ?_) rfl (by kernel_rfl) (by kernel_rfl) (by kernel_rfl) (fun _ _ _ h => h) (Or.inl ⟨by rfl, ?_⟩) (by assumption) ?_
            rotate_left
            · (intro wz hSw; (try dsimp only at hSw); go_simp; try with_reducible rfl)
            simp only [Act.put, List.setIfInBounds_toArray, List.set_cons_zero, List.set_cons_succ]
            refine wpAnyH_take (i := 3) (oi := ({ dst := some 37, op := Op.indexAddr 22 (Operand.tmp 35) (Operand.tmp 36), type := 0, pos := "ref.go:132", after := #[{ on := 1, ground := Ground.data }, { on := 2, ground := Ground.data }], guard := none } : Oper)) (v := ?_) rfl (by kernel_rfl) (by kernel_rfl) (by kernel_rfl) (fun _ _ _ h => h) (Or.inl ⟨by rfl, ?_⟩) (by assumption) ?_
            rotate_left
            · (intro wz hSw; (try dsimp only at hSw); go_simp; try with_reducible rfl)
            simp only [Act.put, List.setIfInBounds_toArray, List.set_cons_zero, List.set_cons_succ]
            refine wpAnyH_take (i := 4) (oi := ({ dst := some 38, op := Op.load 48 (Operand.tmp 37), type := 48, pos := "ref.go:132", after := #[{ on := 3, ground := Ground.data }], guard := none } : Oper)) (v := ?_) rfl (by kernel_rfl) (by kernel_rfl) (by kernel_rfl) (fun _ _ _ h => h) (Or.inl ⟨by rfl, ?_⟩) (by assumption) ?_
            rotate_left
            · (intro wz hSw; (try dsimp only at hSw); go_simp; try with_reducible rfl)
            simp only [Act.put, List.setIfInBounds_toArray, List.set_cons_zero, List.set_cons_succ]
            refine wpAnyH_take (i := 5) (oi := ({ dst := some 39, op := Op.move (Operand.tmp 1), type := 68, pos := "ref.go:132", after := #[], guard := none } : Oper)) (v := ?_) rfl (by kernel_rfl) (by kernel_rfl) (by kernel_rfl) (fun _ _ _ h => h) (Or.inl ⟨by rfl, ?_⟩) (by assumption) ?_
            rotate_left
            · (intro wz hSw; (try dsimp only at hSw); go_simp; try with_reducible rfl)
            simp only [Act.put, List.setIfInBounds_toArray, List.set_cons_zero, List.set_cons_succ]
            refine wpAnyH_take (i := 6) (oi := ({ dst := some 40, op := Op.move (Operand.tmp 7), type := 3, pos := "ref.go:132", after := #[], guard := none } : Oper)) (v := ?_) rfl (by kernel_rfl) (by kernel_rfl) (by kernel_rfl) (fun _ _ _ h => h) (Or.inl ⟨by rfl, ?_⟩) (by assumption) ?_
            rotate_left
            · (intro wz hSw; (try dsimp only at hSw); go_simp; try with_reducible rfl)
            simp only [Act.put, List.setIfInBounds_toArray, List.set_cons_zero, List.set_cons_succ]
            refine wpAnyH_take (i := 7) (oi := ({ dst := some 41, op := Op.indexAddr 68 (Operand.tmp 39) (Operand.tmp 40), type := 0, pos := "ref.go:132", after := #[{ on := 5, ground := Ground.data }, { on := 6, ground := Ground.data }], guard := none } : Oper)) (v := ?_) rfl (by kernel_rfl) (by kernel_rfl) (by kernel_rfl) (fun _ _ _ h => h) (Or.inl ⟨by rfl, ?_⟩) (by assumption) ?_
            rotate_left
            · (intro wz hSw; (try dsimp only at hSw); go_simp; try with_reducible rfl)
            simp only [Act.put, List.setIfInBounds_toArray, List.set_cons_zero, List.set_cons_succ]
            refine wpAnyH_take (i := 8) (oi := ({ dst := some 42, op := Op.load 2 (Operand.tmp 41), type := 2, pos := "ref.go:132", after := #[{ on := 7, ground := Ground.data }], guard := none } : Oper)) (v := ?_) rfl (by kernel_rfl) (by kernel_rfl) (by kernel_rfl) (fun _ _ _ h => h) (Or.inl ⟨by rfl, ?_⟩) (by assumption) ?_
            rotate_left
            · (intro wz hSw; (try dsimp only at hSw); go_simp; try with_reducible rfl)
            simp only [Act.put, List.setIfInBounds_toArray, List.set_cons_zero, List.set_cons_succ]
            refine wpAnyH_ready (rs := [9]) (by kernel_rfl) (by simp) ?_
            refine AllReadyH.cons (o := ({ dst := some 43, op := Op.call { callee := Callee.value (Operand.func 75), args := #[Operand.tmp 38, Operand.tmp 42], argTypes := #[48, 2] }, type := 4, pos := "ref.go:132", after := #[{ on := 4, ground := Ground.data }, { on := 8, ground := Ground.data }], guard := none } : Oper)) rfl (fun K hK => ?_) AllReadyH.nil
            · go_simp
              go_at_call 75
              refine (C5.out _).mono ?_
              rintro e w1 ⟨rfl, hb1⟩
              have b1 := hide (b0.out.trans (hb1.mono b0.out.size))
              refine hK.out _ _ (HS.out _ b1.out) (fun hH1 => ?_)
              clear hK K hb1
              refine wpAnyH_take (i := 10) (oi := ({ dst := some 44, op := Op.unOp UnOp.not 4 (Operand.tmp 43), type := 4, pos := "ref.go:132", after := #[{ on := 9, ground := Ground.data }], guard := none } : Oper)) (v := ?_) rfl (by kernel_rfl) (by kernel_rfl) (by kernel_rfl) (fun _ _ _ h => h) (Or.inl ⟨by rfl, ?_⟩) (by assumption) ?_
              rotate_left
              · (intro wz hSw; (try dsimp only at hSw); go_simp; try with_reducible rfl)
              simp only [Act.put, List.setIfInBounds_toArray, List.set_cons_zero, List.set_cons_succ]
              refine wpAnyH_done (by kernel_rfl) ?_ _
              have HB := hide (And.intro (h4.out.1.trans (b1.out.mono h4.out.1.size)) (h4.out.2.1.trans (b1.out.mono h4.out.2.1.size)))
              clear b0 hH0 b1 hH1
              cases bv with
              | false =>
                go_wp2
                go_ret
                exact ⟨by rw [HD.out]; rfl, HB.out.1⟩
              | true =>
                have HE : Hid (hasVs us regs = hasVs (us.drop (k + 1)) (regs.drop (k + 1))) := hide (by rw [HD.out, Bool.true_and])
                clear HD
                go_wp2
                exact ⟨⟨k + 1, by simp, by omega, ⟨HB.out.1, HB.out.2, HE.out.symm⟩⟩, by simp [intOf]; omega⟩
          · have hke : k = regs.length := by omega
            subst hke
            have HT : Hid (hasVs us regs = true) := hide (by rw [← h4.out.2.2, List.drop_of_length_le (Nat.le_refl _), List.drop_of_length_le (by have := HL.out.1; omega)]; rfl)
            have HG := hide (And.intro h4.out.1 h4.out.2.1)
            clear h4 hkv hk
            go_wp2_with fail
            go_loopw [8] (fun sk wr => ∃ k : Nat, sk = .int .i64 k ∧ k ≤ last.length ∧ Hid (Below w.heap.size w wr ∧ Below W.heap.size W wr ∧ hasSs (ss.drop k) (last.drop k) = hasSs ss last)) (fun sk _ => last.length - (intOf sk).toNat)
            case atStart => exact ⟨0, rfl, Nat.zero_le _, HG.out.1, HG.out.2, rfl⟩
            case round =>
              obtain ⟨k, rfl, hk, h4⟩ := hrel
              by_cases hkv : k < last.length
              · have hkv2 : (k : Int) < last.length := by omega
                have hkt : k < ss.length := by have := HL.out.2; omega
                have hkt2 : (k : Int) < ss.length := by omega
                obtain ⟨y, hyk⟩ : ∃ y, last[k]? = some y := ⟨_, List.getElem?_eq_getElem hkv⟩
                obtain ⟨b3, o3, rfl, hy6⟩ := HF2.out k y hyk
                obtain ⟨b1, o1, l, ai, ci, hX, rfl, f1, f2, -, -⟩ := HE2.out.at hkt
                have hll := HI1.out l (List.mem_of_getElem? hX)
                have HD : Hid (hasSs ss last = (hasL l y && hasSs (ss.drop (k + 1)) (last.drop (k + 1)))) := hide (by
                  rw [← h4.out.2.2, List.drop_eq_getElem_cons hkv, List.drop_eq_getElem_cons hkt]
                  obtain ⟨_, e1⟩ := List.getElem?_eq_some_iff.1 hX
                  obtain ⟨_, e2⟩ := List.getElem?_eq_some_iff.1 hyk
                  rw [e1, e2]; rfl)
                have HF : Hid (Ri wr ai l) := hide (f2.keep' h4.out.1)
                have HS : Hid (∀ w', Below wr.heap.size wr w' → (w'.cell? ⟨q0, 2, none⟩ = some (.slice (some ⟨b1, o1, none⟩) ss.length d) ∧ w'.cell? ⟨b1, o1 + k, none⟩ = some (.slice ai l.length ci) ∧ w'.cell? ⟨b3, o3 + k, none⟩ = some (.int .i64 y))) := fun w' h => by
                  have t0 := (HU.out.1.keep h4.out.2.1).keep h
                  have g := h4.out.1.trans (h.mono h4.out.1.size)
                  have t2 := (g.cell (p := ⟨b3, o3 + k, none⟩) (World.block_lt_of_cell? w _ hy6)).trans hy6
                  have t1 := (g.cell (p := ⟨b1, o1 + k, none⟩) (World.block_lt_of_cell? w _ f1)).trans f1
                  exact ⟨t0.c2, t1, t2⟩
                clear hX hy6 hyk f1 f2
                have C6 : Hid (∀ n w', w'.cell? ⟨n, 0, none⟩ = some (.int .i64 y) → Below wr.heap.size wr w' → Calls Try.prog 53 #[.slice (some ⟨n, 0, none⟩) 1 1, .slice ai l.length ci] w' fun e w'' => w'' = w' ∧ e = .returned (.bool (hasL l y))) := hide (fun n w' h1 h2 => one_within y l n ai ci w' h1 (HF.out.keep' h2) hll)
                generalize hasL l y = bv at *
                go_upto_region 11 with fail
                refine wp_region_held_drew (S := fun w' => w'.cell? ⟨q0, 2, none⟩ = some (.slice (some ⟨b1, o1, none⟩) ss.length d) ∧ w'.cell? ⟨b1, o1 + k, none⟩ = some (.slice ai l.length ci) ∧ w'.cell? ⟨b3, o3 + k, none⟩ = some (.int .i64 y)) (by kernel_rfl) (HS.out _ (Below.refl _ _).drew) (fun hH0 => ?_)
                obtain ⟨w0, hw0⟩ : ∃ w0, w0 = wr.drew := ⟨_, rfl⟩
                (try rw [← hw0] at hH0)
                rw [← hw0]
                have b0 : Hid (Below wr.heap.size wr w0) := hw0 ▸ hide (Below.refl _ _).drew
                clear hw0
                refine wpAnyH_take (i := 0) (oi := ({ dst := some 51, op := Op.move (Operand.tmp 2), type := 38, pos := "ref.go:137", after := #[], guard := none } : Oper)) (v := ?_) rfl (by kernel_rfl) (by kernel_rfl) (by kernel_rfl) (fun _ _ _ h => h) (Or.inl ⟨by rfl, ?_⟩) (by assumption) ?_
                rotate_left
                · (intro wz hSw; (try dsimp only at hSw); go_simp; try with_reducible rfl)
                simp only [Act.put, List.setIfInBounds_toArray, List.set_cons_zero, List.set_cons_succ]
                refine wpAnyH_take (i := 1) (oi := ({ dst := some 52, op := Op.move (Operand.tmp 8), type := 3, pos := "ref.go:137", after := #[], guard := none } : Oper)) (v := ?_) rfl (by kernel_rfl) (by kernel_rfl) (by kernel_rfl) (fun _ _ _ h => h) (Or.inl ⟨by rfl, ?_⟩) (by assumption) ?_
                rotate_left
                · (intro wz hSw; (try dsimp only at hSw); go_simp; try with_reducible rfl)
                simp only [Act.put, List.setIfInBounds_toArray, List.set_cons_zero, List.set_cons_succ]
                refine wpAnyH_take (i := 2) (oi := ({ dst := some 53, op := Op.indexAddr 38 (Operand.tmp 51) (Operand.tmp 52), type := 0, pos := "ref.go:137", after := #[{ on := 0, ground := Ground.data }, { on := 1, ground := Ground.data }], guard := none } : Oper)) (v := ?_) rfl (by kernel_rfl) (by kernel_rfl) (by kernel_rfl) (fun _ _ _ h => h) (Or.inl ⟨by rfl, ?_⟩) (by assumption) ?_
                rotate_left
                · (intro wz hSw; (try dsimp only at hSw); go_simp; try with_reducible rfl)
                simp only [Act.put, List.setIfInBounds_toArray, List.set_cons_zero, List.set_cons_succ]
                refine wpAnyH_take (i := 3) (oi := ({ dst := some 54, op := Op.load 3 (Operand.tmp 53), type := 3, pos := "ref.go:137", after := #[{ on := 2, ground := Ground.data }], guard := none } : Oper)) (v := ?_) rfl (by kernel_rfl) (by kernel_rfl) (by kernel_rfl) (fun _ _ _ h => h) (Or.inl ⟨by rfl, ?_⟩) (by assumption) ?_
                rotate_left
                · (intro wz hSw; (try dsimp only at hSw); go_simp; try with_reducible rfl)
                simp only [Act.put, List.setIfInBounds_toArray, List.set_cons_zero, List.set_cons_succ]
                refine wpAnyH_take (i := 5) (oi := ({ dst := some 56, op := Op.fieldAddr 25 (Operand.tmp 3) 2, type := 0, pos := "ref.go:137", after := #[], guard := none } : Oper)) (v := ?_) rfl (by kernel_rfl) (by kernel_rfl) (by kernel_rfl) (fun _ _ _ h => h) (Or.inl ⟨by rfl, ?_⟩) (by assumption) ?_
                rotate_left
                · (intro wz hSw; (try dsimp only at hSw); go_simp; try with_reducible rfl)
                simp only [Act.put, List.setIfInBounds_toArray, List.set_cons_zero, List.set_cons_succ]
                refine wpAnyH_take (i := 6) (oi := ({ dst := some 57, op := Op.load 23 (Operand.tmp 56), type := 23, pos := "ref.go:137", after := #[{ on := 5, ground := Ground.data }], guard := none } : Oper)) (v := ?_) rfl (by kernel_rfl) (by kernel_rfl) (by kernel_rfl) (fun _ _ _ h => h) (Or.inl ⟨by rfl, ?_⟩) (by assumption) ?_
                rotate_left
                · (intro wz hSw; (try dsimp only at hSw); go_simp; try with_reducible rfl)
                simp only [Act.put, List.setIfInBounds_toArray, List.set_cons_zero, List.set_cons_succ]
                refine wpAnyH_take (i := 7) (oi := ({ dst := some 58, op := Op.move (Operand.tmp 8), type := 3, pos := "ref.go:137", after := #[], guard := none } : Oper)) (v := ?_) rfl (by kernel_rfl) (by kernel_rfl) (by kernel_rfl) (fun _ _ _ h => h) (Or.inl ⟨by rfl, ?_⟩) (by assumption) ?_
                rotate_left
                · (intro wz hSw; (try dsimp only at hSw); go_simp; try with_reducible rfl)
                simp only [Act.put, List.setIfInBounds_toArray, List.set_cons_zero, List.set_cons_succ]
                refine wpAnyH_take (i := 8) (oi := ({ dst := some 59, op := Op.indexAddr 23 (Operand.tmp 57) (Operand.tmp 58), type := 0, pos := "ref.go:137", after := #[{ on := 6, ground := Ground.data }, { on := 7, ground := Ground.data }], guard := none } : Oper)) (v := ?_) rfl (by kernel_rfl) (by kernel_rfl) (by kernel_rfl) (fun _ _ _ h => h) (Or.inl ⟨by rfl, ?_⟩) (by assumption) ?_
                rotate_left
                · (intro wz hSw; (try dsimp only at hSw); go_simp; try with_reducible rfl)
                simp only [Act.put, List.setIfInBounds_toArray, List.set_cons_zero, List.set_cons_succ]
                refine wpAnyH_take (i := 9) (oi := ({ dst := some 60, op := Op.load 38 (Operand.tmp 59), type := 38, pos := "ref.go:137", after := #[{ on := 8, ground := Ground.data }], guard := none } : Oper)) (v := ?_) rfl (by kernel_rfl) (by kernel_rfl) (by kernel_rfl) (fun _ _ _ h => h) (Or.inl ⟨by rfl, ?_⟩) (by assumption) ?_
                rotate_left
                · (intro wz hSw; (try dsimp only at hSw); go_simp; try with_reducible rfl)
                simp only [Act.put, List.setIfInBounds_toArray, List.set_cons_zero, List.set_cons_succ]
                refine wpAnyH_ready (rs := [4]) (by kernel_rfl) (by simp) ?_
                refine AllReadyH.cons (o := ({ dst := some 55, op := Op.buildSlice 38 1 #[(0, Operand.tmp 54)], type := 38, pos := "ref.go:137", after := #[{ on := 3, ground := Ground.data }], guard := none } : Oper)) rfl (fun K hK => ?_) AllReadyH.nil
                · go_simp
                  have hb1 : Below w0.heap.size w0 (w0.alloc (.cells #[.int .i64 y] 3)) := (Below.refl _ _).alloc (Nat.le_refl _) _
                  have Y1 : Hid ((w0.alloc (.cells #[.int .i64 y] 3)).cell? ⟨w0.heap.size, 0, none⟩ = some (.int .i64 y)) := hide (by simp)
                  have b1 := hide (b0.out.trans (hb1.mono b0.out.size))
                  refine hK.out _ _ (HS.out _ b1.out) (fun hH1 => ?_)
                  clear hK K hb1
                  obtain ⟨w1, hw1⟩ : ∃ z9, z9 = (w0.alloc (.cells #[.int .i64 y] 3)) := ⟨_, rfl⟩
                  rw [← hw1] at hH1 b1 Y1 ⊢
                  clear hw1
                  generalize w0.heap.size = nb at *
                  refine wpAnyH_ready (rs := [10]) (by kernel_rfl) (by simp) ?_
                  refine AllReadyH.cons (o := ({ dst := some 61, op := Op.call { callee := Callee.value (Operand.func 53), args := #[Operand.tmp 55, Operand.tmp 60], argTypes := #[38, 38] }, type := 4, pos := "ref.go:137", after := #[{ on := 4, ground := Ground.data }, { on := 9, ground := Ground.data }], guard := none } : Oper)) rfl (fun K hK => ?_) AllReadyH.nil
                  · go_simp
                    go_at_call 53
                    refine (C6.out nb w1 Y1.out b1.out).mono ?_
                    rintro e w2 ⟨hw, rfl⟩
                    obtain rfl := hw.symm
                    refine hK.out _ _ (HS.out _ b1.out) (fun _ => ?_)
                    clear hK K
                    refine wpAnyH_take (i := 11) (oi := ({ dst := some 62, op := Op.unOp UnOp.not 4 (Operand.tmp 61), type := 4, pos := "ref.go:137", after := #[{ on := 10, ground := Ground.data }], guard := none } : Oper)) (v := ?_) rfl (by kernel_rfl) (by kernel_rfl) (by kernel_rfl) (fun _ _ _ h => h) (Or.inl ⟨by rfl, ?_⟩) (by assumption) ?_
                    rotate_left
                    · (intro wz hSw; (try dsimp only at hSw); go_simp; try with_reducible rfl)
                    simp only [Act.put, List.setIfInBounds_toArray, List.set_cons_zero, List.set_cons_succ]
                    refine wpAnyH_done (by kernel_rfl) ?_ _
                    have HB := hide (And.intro (h4.out.1.trans (b1.out.mono h4.out.1.size)) (h4.out.2.1.trans (b1.out.mono h4.out.2.1.size)))
                    clear b0 hH0 b1 hH1
                    cases bv with
                    | false =>
                      go_wp2
                      go_ret
                      exact ⟨by rw [HD.out, Bool.false_and, Bool.and_false]; rfl, HB.out.1⟩
                    | true =>
                      have HE : Hid (hasSs ss last = hasSs (ss.drop (k + 1)) (last.drop (k + 1))) := hide (by rw [HD.out, Bool.true_and])
                      clear HD
                      go_wp2
                      exact ⟨⟨k + 1, by simp, by omega, ⟨HB.out.1, HB.out.2, HE.out.symm⟩⟩, by simp [intOf]; omega⟩
              · have hke : k = last.length := by omega
                subst hke
                have HE : Hid (hasSs ss last = true) := hide (by rw [← h4.out.2.2, List.drop_of_length_le (Nat.le_refl _), List.drop_of_length_le (by have := HL.out.2; omega)]; rfl)
                go_wp2
                go_ret
                exact ⟨by rw [HE.out, HT.out]; rfl, h4.out.1⟩
      · have hb1 : ((last.length : Int) != ss.length) = true := by rw [bne_iff_ne]; omega
        rw [hasSs_len ss last (fun e => hm e.symm), Bool.and_false]
        go_enter Try.func36, Try.ntmps36
        go_upto_region 1 with fail
        go_name_world W hW
        obtain ⟨B0, -, u⟩ := box1 w _ _ _ _ W hW
        have HU := hide u
        have x0 := B0.c0
        have x1 := B0.c1
        have x2 := B0.c2
        clear hW B0 u
        go_wp2
        go_ret
        exact ⟨by simp, HU.out⟩
    · have hb0 : ((regs.length : Int) != us.length) = true := by rw [bne_iff_ne]; omega
      rw [hasVs_len us regs (fun e => hl e.symm), Bool.false_and]
      go_enter Try.func36, Try.ntmps36
      go_upto_region 1 with fail
      go_name_world W hW
      obtain ⟨B0, -, u⟩ := box1 w _ _ _ _ W hW
      have HU := hide u
      have x0 := B0.c0
      have x1 := B0.c1
      clear hW B0 u
      go_wp2
      go_ret
      exact ⟨by simp, HU.out⟩
end Go.Proofs.Ytmhicllhjiglkaa
namespace Go.Proofs.Ytmhicllhjiglkaa
open Go.ChangeShapes Go.WideShapes Go.ChangeAt Go.RowKit Go.Deep
theorem Try.cells68 : Try.prog.cellsOf 68 = 1 := by kernel_rfl
theorem Try.cells70 : Try.prog.cellsOf 70 = 2 := by kernel_rfl
/-- a row of numbers that came in, opened -/
theorem nums_cells {H : Type} {enc : TypeId × Value → H} {W : World} {base : Nat} {fuel : Nat} {T E : TypeId} (hT : Try.prog.underlying T = some (.slice E)) (hE : Try.prog.underlying E = some (.int .i64)) (hc : Try.prog.cellsOf E = 1) {cc : Value} {d : DataW H × List MemPlace}
    (hf : DataW.trod enc Try.prog W base (fun _ => true) true fuel T [cc] = some d) : ∃ a cap, ∃ ts : List Int, cc = .slice a (List.length ts) cap ∧ Ri W a ts ∧ (∀ n ∈ ts, i64 n) ∧ ts.length ≤ cap ∧ (a = none → cap = 0) := by
  rcases open_slice hT hf with ⟨hcs, _⟩ | ⟨x, l, c, m, n, D, Pl, hcs, _, hl, _, hmm, hx, hall⟩
  · simp at hcs
    subst hcs
    exact ⟨none, 0, [], rfl, fun i t h => by simp at h, fun n h => by simp at h, Nat.le_refl _, fun _ => rfl⟩
  · simp at hcs
    subst hcs
    simp only [if_true] at hmm
    subst hmm
    have each : ∀ i, i < l → ∃ t : Int, i64 t ∧ W.cell? (x.add i) = some (.int .i64 t) := by
      intro i hi
      obtain ⟨cs', h1, h2⟩ := hall i (by omega)
      rw [hc] at h1
      obtain ⟨_, hlen, hcell⟩ := World.cells?_some h1
      have hc2 : ∃ v0, cs' = [v0] := by
        match cs', hlen with
        | [v0], _ => exact ⟨v0, rfl⟩
      obtain ⟨v0, rfl⟩ := hc2
      obtain ⟨t, ha, _, hw⟩ := DataW.trod_int hE h2
      simp at ha
      subst ha
      have d0 := hcell 0 (by omega)
      refine ⟨t, ?_, ?_⟩
      · exact i64_of_wf hw
      · rw [Go.Deep.add_add] at d0; simpa using d0
    obtain ⟨Z, hZ⟩ := choose_lt each
    obtain ⟨b, o, s⟩ := x
    by_cases hl0 : l = 0
    · subst hl0
      exact ⟨_, _, [], rfl, fun i t h => by simp at h, fun n h => by simp at h, Nat.zero_le _, fun e => by cases e⟩
    have z0 := (hZ 0 (by omega)).2
    have hsn : s = none := by simpa [Addr.add] using World.cell?_spot z0
    subst hsn
    refine ⟨some ⟨b, o, none⟩, _, (List.range l).map Z, by rw [List.length_map, List.length_range], ?_, ?_, by simpa using hl, fun e => by cases e⟩
    · intro i t hi
      simp only [List.getElem?_map, Option.map_eq_some_iff] at hi
      obtain ⟨n', hn', rfl⟩ := hi
      obtain ⟨hlt, hn''⟩ := List.getElem?_eq_some_iff.1 hn'
      simp at hlt hn''
      subst hn''
      have d0 := (hZ i hlt).2
      rw [addr_none] at d0
      exact ⟨b, o, rfl, d0⟩
    · intro t ht
      obtain ⟨i, hi, rfl⟩ := List.mem_map.1 ht
      exact (hZ i (by simpa using hi)).1
set_option maxRecDepth 100000 in
/-- registers' numbers and their sites, as they came in, opened -/
theorem open_nums {H : Type} {enc : TypeId × Value → H} {W : World} {r : Reach} {b0 base : Nat} {v : Value} {d : DataW H} {p : List MemPlace}
    (hval : Value.okWide Try.prog W r b0 70 v) (h : DataW.Trod enc Try.prog W base (fun _ => true) true 70 v d p) : ∃ a c b dd, ∃ (rs ls : List Int), v = .agg #[.slice a rs.length c, .slice b ls.length dd] ∧ Ri W a rs ∧ Ri W b ls ∧ (∀ n ∈ rs, i64 n) ∧ (∀ n ∈ ls, i64 n) ∧ rs.length ≤ c ∧ ls.length ≤ dd ∧ (a = none → c = 0) ∧ (b = none → dd = 0) := by
  obtain ⟨cs, rfl, h2⟩ := okWide_struct Try.underlying70 hval
  rw [Try.cells70] at h2
  obtain ⟨c0, c1, rfl⟩ : ∃ c0 c1, cs = #[c0, c1] := by
    obtain ⟨l⟩ := cs
    match l, h2 with
    | [c0, c1], _ => exact ⟨c0, c1, rfl⟩
  obtain ⟨fuel, hf⟩ := h
  have hf' : DataW.trod enc Try.prog W base (fun _ => true) true fuel 70 [c0, c1] = some (d, p) := hf
  obtain ⟨xs, m, _, _, _, hl, hx⟩ := DataW.trod_struct Try.underlying70 hf'
  have g0 : DataW.trod enc Try.prog W base (fun _ => true) true m 68 (([c0, c1].drop 0).take (Try.prog.cellsOf 68)) = xs[0]? := hx 0 _ rfl
  have g1 : DataW.trod enc Try.prog W base (fun _ => true) true m 38 (([c0, c1].drop 1).take (Try.prog.cellsOf 38)) = xs[1]? := hx 1 _ rfl
  rw [Try.cells68] at g0
  rw [Try.cells38] at g1
  simp only [List.drop, List.take] at g0 g1
  have hl2 : xs.length = 2 := hl
  cases e0 : xs[0]? with
  | none => have := List.getElem?_eq_none_iff.1 e0; omega
  | some y0 =>
    cases e1 : xs[1]? with
    | none => have := List.getElem?_eq_none_iff.1 e1; omega
    | some y1 =>
      rw [e0] at g0
      rw [e1] at g1
      obtain ⟨a, c, rs, rfl, k1, k2, k3, k4⟩ := nums_cells Try.underlying68 Try.underlying2 Try.cells2 g0
      obtain ⟨b, dd, ls, rfl, k5, k6, k7, k8⟩ := nums_cells Try.underlying38 Try.underlying3 Try.cells3 g1
      exact ⟨a, c, b, dd, rs, ls, rfl, k1, k5, k2, k6, k3, k7, k4, k8⟩
end Go.Proofs.Ytmhicllhjiglkaa
namespace Go.Proofs.Ytmhicllhjiglkaa
open Go.RowKit
/-- two boxes that were made, and all else below M as in W -/
structure Tw (N M : Nat) (w0 W w : World) (p q : Nat) (r0 : Bool) (a0 b0 : Value) (r1 : Bool) (a1 b1 : Value) : Prop where
  b0 : Bs w p r0 a0 b0
  f0 : Fs w p
  b1 : Bs w q r1 a1 b1
  f1 : Fs w q
  bel : Below N w0 w
  pN : N ≤ p
  qN : N ≤ q
  pM : p < M
  qM : q < M
  ne : p ≠ q
  le : M ≤ w.heap.size
  fr : ∀ k, k < M → k ≠ p → k ≠ q → w.heap[k]? = W.heap[k]?
theorem Tw.keep {N M : Nat} {w0 W w w' : World} {p q : Nat} {r0 : Bool} {a0 b0 : Value} {r1 : Bool} {a1 b1 : Value} (h : Tw N M w0 W w p q r0 a0 b0 r1 a1 b1) (hb : Below w.heap.size w w') : Tw N M w0 W w' p q r0 a0 b0 r1 a1 b1 :=
  ⟨h.b0.keep hb, h.f0.of (hb.block _ h.b0.lt), h.b1.keep hb, h.f1.of (hb.block _ h.b1.lt), h.bel.trans (hb.mono (Nat.le_trans (Nat.le_trans h.pN (Nat.le_of_lt h.pM)) h.le)), h.pN, h.qN, h.pM, h.qM, h.ne, Nat.le_trans h.le hb.size, fun k hk h1 h2 => (hb.block k (Nat.lt_of_lt_of_le hk h.le)).trans (h.fr k hk h1 h2)⟩
theorem Tw.putp {N M : Nat} {w0 W w : World} {p q : Nat} {r0 : Bool} {a0 b0 : Value} {r1 : Bool} {a1 b1 : Value} (h : Tw N M w0 W w p q r0 a0 b0 r1 a1 b1) (r : Bool) (a b : Value) : Tw N M w0 W (st3 w p r a b) p q r a b r1 a1 b1 :=
  ⟨h.b0.put3 _ _ _, h.f0.put3 _ _ _, h.b1.far3 (fun e => h.ne e.symm) _ _ _, h.f1.put3 _ _ _, st3_below h.bel p h.pN _ _ _, h.pN, h.qN, h.pM, h.qM, h.ne, by rw [st3_size]; exact h.le, fun k hk h1 h2 => (st3_block w p r a b k h1).trans (h.fr k hk h1 h2)⟩
theorem Tw.putq {N M : Nat} {w0 W w : World} {p q : Nat} {r0 : Bool} {a0 b0 : Value} {r1 : Bool} {a1 b1 : Value} (h : Tw N M w0 W w p q r0 a0 b0 r1 a1 b1) (r : Bool) (a b : Value) : Tw N M w0 W (st3 w q r a b) p q r0 a0 b0 r a b :=
  ⟨h.b0.far3 h.ne _ _ _, h.f0.put3 _ _ _, h.b1.put3 _ _ _, h.f1.put3 _ _ _, st3_below h.bel q h.qN _ _ _, h.pN, h.qN, h.pM, h.qM, h.ne, by rw [st3_size]; exact h.le, fun k hk h1 h2 => (st3_block w q r a b k h2).trans (h.fr k hk h1 h2)⟩
/-- a State that is made Right, whose rows lie from block M on -/
def Pre9 (w : World) (M : Nat) (v : Value) : Prop := ∃ (r : Bool) (a : Option Addr) (c : Nat) (b : Option Addr) (d : Nat) (x : VS), v = .agg #[.bool r, .slice a x.us.length c, .slice b x.ss.length d] ∧ r = x.r ∧ Rn w M v x.raw ∧ SOk x.raw x.us 6 70
theorem Pre9.keep {w w' : World} {M : Nat} {v : Value} (h : Pre9 w M v) (hb : Below w.heap.size w w') : Pre9 w' M v := by
  obtain ⟨r, a, c, b, d, x, h1, h2, h3, h4⟩ := h
  exact ⟨r, a, c, b, d, x, h1, h2, h3.keep hb, h4⟩
theorem fix_pre9 {w0 : World} {a b : Option Addr} {c d : Nat} {r : Bool} {vs : List R} {ss : List (List Int)} (hv : RV w0 a vs) (hs : RR w0 b ss) (hvi : ∀ (m : Nat) (x : R), vs[m]? = some x → i64 x.n ∧ i64 x.lo ∧ i64 x.hi) (M : Nat) (w : World) (h : Below w0.heap.size w0 w) (hM : M ≤ w.heap.size) :
    Calls Try.prog 10 #[.agg #[.bool r, .slice a vs.length c, .slice b ss.length d]] w fun e w' => ∃ v, e = .returned v ∧ Below w.heap.size w w' ∧ Pre9 w' M v := by
  refine (fix_any a b c d r vs ss w (hv.keep h) (hs.keep h) hvi).mono ?_
  rintro e w'' ⟨v, rfl, hB, s, hR, us, hO⟩
  obtain ⟨a', c', b', d', e', -⟩ := id hR
  have e1 := (hO.vok (by omega)).1
  refine ⟨v, rfl, hB, s.r, a', c', b', d', ⟨s.r, us, s.ss⟩, ?_, rfl, ?_, ?_⟩
  · rw [e', hO.vs, List.length_map]
  · rw [← e1]; exact hR.mono hM
  · rw [← e1]; exact hO
end Go.Proofs.Ytmhicllhjiglkaa
namespace Go.Proofs.Ytmhicllhjiglkaa
open Go.RowKit
abbrev fxAct7 (X0 X1 X2 X5 : Value) (p q : Nat) (y10 y11 y12 y13 : Value) : Act := { tmps := #[X0, X1, X2, .pointer (some ⟨p, 0, none⟩), .pointer (some ⟨q, 0, none⟩), X5, .bool false, undef, undef, undef, y10, y11, y12, y13, undef, undef, undef, undef, undef, undef, undef, undef, undef, undef, undef, undef, undef, undef, undef, undef, undef, undef, undef, undef, undef, undef, undef, undef, undef, undef, undef, undef, undef, undef, undef, undef, undef, undef, undef, undef, undef, undef, undef, undef, undef, undef, undef, undef, undef, undef, undef, undef, undef, undef, undef, undef, undef, undef, undef, undef, undef, undef, undef, undef, undef, undef, undef, undef, undef, undef, undef, undef, undef, undef, undef, undef], defers := [] }
set_option maxRecDepth 100000 in
set_option maxHeartbeats 8000000 in
theorem fx7 {Q0 : Exit → Act → World → Prop} (X0 X1 X2 X5 : Value) (N M : Nat) (w0 W : World) (p q : Nat) (r0 : Bool) (a0 b0 : Value) (r1 : Bool) (a1 b1 : Value) (cA : ∀ w, Below N w0 w → M ≤ w.heap.size → Calls Try.prog 10 #[.agg #[.bool r0, a0, b0]] w fun e w' => ∃ v, e = .returned v ∧ Below w.heap.size w w' ∧ Pre9 w' M v) (cB : ∀ w, Below N w0 w → M ≤ w.heap.size → Calls Try.prog 10 #[.agg #[.bool r1, a1, b1]] w fun e w' => ∃ v, e = .returned v ∧ Below w.heap.size w w' ∧ Pre9 w' M v)
    (hQ : ∀ (v : World) (q0 : Bool) (v0 s0 : Value) (q1 : Bool) (v1 s1 : Value) (x0 x1 : VS), Tw N M w0 W v p q q0 v0 s0 q1 v1 s1 → Rn v M (.agg #[.bool q0, v0, s0]) x0.raw → Rn v M (.agg #[.bool q1, v1, s1]) x1.raw → SOk x0.raw x0.us 6 70 → SOk x1.raw x1.us 6 70 → Q0 .normal (fxAct7 X0 X1 X2 X5 p q (.agg #[.bool r0, a0, b0]) (.agg #[.bool q0, v0, s0]) (.agg #[.bool r1, a1, b1]) (.agg #[.bool q1, v1, s1])) v)
    (V : World) (hT : Tw N M w0 W V p q r0 a0 b0 r1 a1 b1) : (Code.region 1 #[{ dst := some 10, op := Op.load 25 (Operand.tmp 3), type := 25, pos := "law.go:129", after := #[], guard := none }, { dst := some 11, op := Op.call { callee := Callee.value (Operand.func 10), args := #[Operand.tmp 10], argTypes := #[25] }, type := 25, pos := "law.go:129", after := #[{ on := 0, ground := Ground.data }], guard := none }, { dst := some 12, op := Op.load 25 (Operand.tmp 4), type := 25, pos := "law.go:129", after := #[], guard := none }, { dst := some 13, op := Op.call { callee := Callee.value (Operand.func 10), args := #[Operand.tmp 12], argTypes := #[25] }, type := 25, pos := "law.go:129", after := #[{ on := 2, ground := Ground.data }, { on := 1, ground := Ground.chain }], guard := none }, { dst := none, op := Op.store 25 (Operand.tmp 3) (Operand.tmp 11), type := 0, pos := "law.go:129", after := #[{ on := 1, ground := Ground.data }, { on := 3, ground := Ground.chain }, { on := 0, ground := Ground.phase }, { on := 1, ground := Ground.phase }, { on := 2, ground := Ground.textOnly Departure.lateStores }, { on := 3, ground := Ground.textOnly Departure.lateStoresUnsure }], guard := none }, { dst := none, op := Op.store 25 (Operand.tmp 4) (Operand.tmp 13), type := 0, pos := "law.go:129", after := #[{ on := 3, ground := Ground.data }, { on := 4, ground := Ground.chain }, { on := 0, ground := Ground.phase }, { on := 1, ground := Ground.phase }, { on := 2, ground := Ground.phase }, { on := 3, ground := Ground.phase }, { on := 4, ground := Ground.phase }], guard := none }] true).wp Try.prog Q0 (fxAct7 X0 X1 X2 X5 p q undef undef undef undef) V := by
  dsimp only [fxAct7]
  refine wp_region_held_drew (S := fun w' => True) (by kernel_rfl) trivial (fun hH0 => ?_)
  obtain ⟨w0, hw0⟩ : ∃ w0, w0 = V.drew := ⟨_, rfl⟩
  (try rw [← hw0] at hH0)
  rw [← hw0]
  have T0 := hT.keep (Below.refl _ _).drew
  rw [← hw0] at T0
  clear hw0
  refine wpAnyH_ready (rs := [0, 2]) (by kernel_rfl) (by simp) ?_
  refine AllReadyH.cons (o := ({ dst := some 10, op := Op.load 25 (Operand.tmp 3), type := 25, pos := "law.go:129", after := #[], guard := none } : Oper)) rfl (fun K hK => ?_) (AllReadyH.cons (o := ({ dst := some 12, op := Op.load 25 (Operand.tmp 4), type := 25, pos := "law.go:129", after := #[], guard := none } : Oper)) rfl (fun K hK => ?_) AllReadyH.nil)
  · have zb := T0.b0
    have z0 := zb.c0
    have z1 := zb.c1
    have z2 := zb.c2
    go_simp
    refine hK.out _ _ trivial (fun _ => ?_)
    clear hK K zb z0 z1 z2
    refine wpAnyH_ready (rs := [1, 2]) (by kernel_rfl) (by simp) ?_
    refine AllReadyH.cons (o := ({ dst := some 11, op := Op.call { callee := Callee.value (Operand.func 10), args := #[Operand.tmp 10], argTypes := #[25] }, type := 25, pos := "law.go:129", after := #[{ on := 0, ground := Ground.data }], guard := none } : Oper)) rfl (fun K hK => ?_) (AllReadyH.cons (o := ({ dst := some 12, op := Op.load 25 (Operand.tmp 4), type := 25, pos := "law.go:129", after := #[], guard := none } : Oper)) rfl (fun K hK => ?_) AllReadyH.nil)
    · go_simp
      go_at_call 10
      refine (cA _ T0.bel T0.le).mono ?_
      rintro e w1 ⟨e0, rfl, hb1, P0_1⟩
      have T1 := T0.keep hb1
      refine hK.out _ _ trivial (fun _ => ?_)
      clear hK K
      refine wpAnyH_ready (rs := [2]) (by kernel_rfl) (by simp) ?_
      refine AllReadyH.cons (o := ({ dst := some 12, op := Op.load 25 (Operand.tmp 4), type := 25, pos := "law.go:129", after := #[], guard := none } : Oper)) rfl (fun K hK => ?_) AllReadyH.nil
      · have zb := T1.b1
        have z0 := zb.c0
        have z1 := zb.c1
        have z2 := zb.c2
        go_simp
        refine hK.out _ _ trivial (fun _ => ?_)
        clear hK K zb z0 z1 z2
        refine wpAnyH_ready (rs := [3]) (by kernel_rfl) (by simp) ?_
        refine AllReadyH.cons (o := ({ dst := some 13, op := Op.call { callee := Callee.value (Operand.func 10), args := #[Operand.tmp 12], argTypes := #[25] }, type := 25, pos := "law.go:129", after := #[{ on := 2, ground := Ground.data }, { on := 1, ground := Ground.chain }], guard := none } : Oper)) rfl (fun K hK => ?_) AllReadyH.nil
        · go_simp
          go_at_call 10
          refine (cB _ T1.bel T1.le).mono ?_
          rintro e w2 ⟨e1, rfl, hb2, P1_2⟩
          have T2 := T1.keep hb2
          have P0_2 := P0_1.keep hb2
          refine hK.out _ _ trivial (fun _ => ?_)
          clear hK K
          refine wpAnyH_ready (rs := [4]) (by kernel_rfl) (by simp) ?_
          refine AllReadyH.cons (o := ({ dst := none, op := Op.store 25 (Operand.tmp 3) (Operand.tmp 11), type := 0, pos := "law.go:129", after := #[{ on := 1, ground := Ground.data }, { on := 3, ground := Ground.chain }, { on := 0, ground := Ground.phase }, { on := 1, ground := Ground.phase }, { on := 2, ground := Ground.textOnly Departure.lateStores }, { on := 3, ground := Ground.textOnly Departure.lateStoresUnsure }], guard := none } : Oper)) rfl (fun K hK => ?_) AllReadyH.nil
          · obtain ⟨q0, ya0, yc0, yb0, yd0, x0, rfl, -, R0, O0⟩ := P0_2
            obtain ⟨q1, ya1, yc1, yb1, yd1, x1, rfl, -, R1, O1⟩ := P1_2
            have zb := T2.b0
            have zf := T2.f0
            have z0 := zb.c0
            have z1 := zb.c1
            have z2 := zb.c2
            have y0 := zf.f0
            have y1 := zf.f1
            have y2 := zf.f2
            go_simp
            have U0 := T2.putp q0 (.slice ya0 x0.us.length yc0) (.slice yb0 x0.ss.length yd0)
            have R0 := R0.st3 T2.pM q0 (.slice ya0 x0.us.length yc0) (.slice yb0 x0.ss.length yd0)
            have R1 := R1.st3 T2.pM q0 (.slice ya0 x0.us.length yc0) (.slice yb0 x0.ss.length yd0)
            refine hK.out _ _ trivial (fun _ => ?_)
            clear hK K zb zf z0 z1 z2 y0 y1 y2
            unfold st3 at U0 R0 R1
            obtain ⟨u0, hu0⟩ : ∃ z9, z9 = ((w2.setCell ⟨p, 0, none⟩ (.bool q0)).setCell ⟨p, 1, none⟩ (.slice ya0 x0.us.length yc0)).setCell ⟨p, 2, none⟩ (.slice yb0 x0.ss.length yd0) := ⟨_, rfl⟩
            rw [← hu0] at U0 R0 R1 ⊢
            clear hu0
            refine wpAnyH_ready (rs := [5]) (by kernel_rfl) (by simp) ?_
            refine AllReadyH.cons (o := ({ dst := none, op := Op.store 25 (Operand.tmp 4) (Operand.tmp 13), type := 0, pos := "law.go:129", after := #[{ on := 3, ground := Ground.data }, { on := 4, ground := Ground.chain }, { on := 0, ground := Ground.phase }, { on := 1, ground := Ground.phase }, { on := 2, ground := Ground.phase }, { on := 3, ground := Ground.phase }, { on := 4, ground := Ground.phase }], guard := none } : Oper)) rfl (fun K hK => ?_) AllReadyH.nil
            · have zb := U0.b1
              have zf := U0.f1
              have z0 := zb.c0
              have z1 := zb.c1
              have z2 := zb.c2
              have y0 := zf.f0
              have y1 := zf.f1
              have y2 := zf.f2
              go_simp
              have U1 := U0.putq q1 (.slice ya1 x1.us.length yc1) (.slice yb1 x1.ss.length yd1)
              have R0 := R0.st3 U0.qM q1 (.slice ya1 x1.us.length yc1) (.slice yb1 x1.ss.length yd1)
              have R1 := R1.st3 U0.qM q1 (.slice ya1 x1.us.length yc1) (.slice yb1 x1.ss.length yd1)
              refine hK.out _ _ trivial (fun _ => ?_)
              clear hK K zb zf z0 z1 z2 y0 y1 y2
              unfold st3 at U1 R0 R1
              obtain ⟨u1, hu1⟩ : ∃ z9, z9 = ((u0.setCell ⟨q, 0, none⟩ (.bool q1)).setCell ⟨q, 1, none⟩ (.slice ya1 x1.us.length yc1)).setCell ⟨q, 2, none⟩ (.slice yb1 x1.ss.length yd1) := ⟨_, rfl⟩
              rw [← hu1] at U1 R0 R1 ⊢
              clear hu1
              refine wpAnyH_done (by kernel_rfl) ?_ _
              exact hQ _ _ _ _ _ _ _ x0 x1 U1 R0 R1 O0 O1
    · have zb := T0.b1
      have z0 := zb.c0
      have z1 := zb.c1
      have z2 := zb.c2
      go_simp
      refine hK.out _ _ trivial (fun _ => ?_)
      clear hK K zb z0 z1 z2
      refine wpAnyH_ready (rs := [1]) (by kernel_rfl) (by simp) ?_
      refine AllReadyH.cons (o := ({ dst := some 11, op := Op.call { callee := Callee.value (Operand.func 10), args := #[Operand.tmp 10], argTypes := #[25] }, type := 25, pos := "law.go:129", after := #[{ on := 0, ground := Ground.data }], guard := none } : Oper)) rfl (fun K hK => ?_) AllReadyH.nil
      · go_simp
        go_at_call 10
        refine (cA _ T0.bel T0.le).mono ?_
        rintro e w1 ⟨e0, rfl, hb1, P0_1⟩
        have T1 := T0.keep hb1
        refine hK.out _ _ trivial (fun _ => ?_)
        clear hK K
        refine wpAnyH_ready (rs := [3]) (by kernel_rfl) (by simp) ?_
        refine AllReadyH.cons (o := ({ dst := some 13, op := Op.call { callee := Callee.value (Operand.func 10), args := #[Operand.tmp 12], argTypes := #[25] }, type := 25, pos := "law.go:129", after := #[{ on := 2, ground := Ground.data }, { on := 1, ground := Ground.chain }], guard := none } : Oper)) rfl (fun K hK => ?_) AllReadyH.nil
        · go_simp
          go_at_call 10
          refine (cB _ T1.bel T1.le).mono ?_
          rintro e w2 ⟨e1, rfl, hb2, P1_2⟩
          have T2 := T1.keep hb2
          have P0_2 := P0_1.keep hb2
          refine hK.out _ _ trivial (fun _ => ?_)
          clear hK K
          refine wpAnyH_ready (rs := [4]) (by kernel_rfl) (by simp) ?_
          refine AllReadyH.cons (o := ({ dst := none, op := Op.store 25 (Operand.tmp 3) (Operand.tmp 11), type := 0, pos := "law.go:129", after := #[{ on := 1, ground := Ground.data }, { on := 3, ground := Ground.chain }, { on := 0, ground := Ground.phase }, { on := 1, ground := Ground.phase }, { on := 2, ground := Ground.textOnly Departure.lateStores }, { on := 3, ground := Ground.textOnly Departure.lateStoresUnsure }], guard := none } : Oper)) rfl (fun K hK => ?_) AllReadyH.nil
          · obtain ⟨q0, ya0, yc0, yb0, yd0, x0, rfl, -, R0, O0⟩ := P0_2
            obtain ⟨q1, ya1, yc1, yb1, yd1, x1, rfl, -, R1, O1⟩ := P1_2
            have zb := T2.b0
            have zf := T2.f0
            have z0 := zb.c0
            have z1 := zb.c1
            have z2 := zb.c2
            have y0 := zf.f0
            have y1 := zf.f1
            have y2 := zf.f2
            go_simp
            have U0 := T2.putp q0 (.slice ya0 x0.us.length yc0) (.slice yb0 x0.ss.length yd0)
            have R0 := R0.st3 T2.pM q0 (.slice ya0 x0.us.length yc0) (.slice yb0 x0.ss.length yd0)
            have R1 := R1.st3 T2.pM q0 (.slice ya0 x0.us.length yc0) (.slice yb0 x0.ss.length yd0)
            refine hK.out _ _ trivial (fun _ => ?_)
            clear hK K zb zf z0 z1 z2 y0 y1 y2
            unfold st3 at U0 R0 R1
            obtain ⟨u0, hu0⟩ : ∃ z9, z9 = ((w2.setCell ⟨p, 0, none⟩ (.bool q0)).setCell ⟨p, 1, none⟩ (.slice ya0 x0.us.length yc0)).setCell ⟨p, 2, none⟩ (.slice yb0 x0.ss.length yd0) := ⟨_, rfl⟩
            rw [← hu0] at U0 R0 R1 ⊢
            clear hu0
            refine wpAnyH_ready (rs := [5]) (by kernel_rfl) (by simp) ?_
            refine AllReadyH.cons (o := ({ dst := none, op := Op.store 25 (Operand.tmp 4) (Operand.tmp 13), type := 0, pos := "law.go:129", after := #[{ on := 3, ground := Ground.data }, { on := 4, ground := Ground.chain }, { on := 0, ground := Ground.phase }, { on := 1, ground := Ground.phase }, { on := 2, ground := Ground.phase }, { on := 3, ground := Ground.phase }, { on := 4, ground := Ground.phase }], guard := none } : Oper)) rfl (fun K hK => ?_) AllReadyH.nil
            · have zb := U0.b1
              have zf := U0.f1
              have z0 := zb.c0
              have z1 := zb.c1
              have z2 := zb.c2
              have y0 := zf.f0
              have y1 := zf.f1
              have y2 := zf.f2
              go_simp
              have U1 := U0.putq q1 (.slice ya1 x1.us.length yc1) (.slice yb1 x1.ss.length yd1)
              have R0 := R0.st3 U0.qM q1 (.slice ya1 x1.us.length yc1) (.slice yb1 x1.ss.length yd1)
              have R1 := R1.st3 U0.qM q1 (.slice ya1 x1.us.length yc1) (.slice yb1 x1.ss.length yd1)
              refine hK.out _ _ trivial (fun _ => ?_)
              clear hK K zb zf z0 z1 z2 y0 y1 y2
              unfold st3 at U1 R0 R1
              obtain ⟨u1, hu1⟩ : ∃ z9, z9 = ((u0.setCell ⟨q, 0, none⟩ (.bool q1)).setCell ⟨q, 1, none⟩ (.slice ya1 x1.us.length yc1)).setCell ⟨q, 2, none⟩ (.slice yb1 x1.ss.length yd1) := ⟨_, rfl⟩
              rw [← hu1] at U1 R0 R1 ⊢
              clear hu1
              refine wpAnyH_done (by kernel_rfl) ?_ _
              exact hQ _ _ _ _ _ _ _ x0 x1 U1 R0 R1 O0 O1
  · have zb := T0.b1
    have z0 := zb.c0
    have z1 := zb.c1
    have z2 := zb.c2
    go_simp
    refine hK.out _ _ trivial (fun _ => ?_)
    clear hK K zb z0 z1 z2
    refine wpAnyH_ready (rs := [0]) (by kernel_rfl) (by simp) ?_
    refine AllReadyH.cons (o := ({ dst := some 10, op := Op.load 25 (Operand.tmp 3), type := 25, pos := "law.go:129", after := #[], guard := none } : Oper)) rfl (fun K hK => ?_) AllReadyH.nil
    · have zb := T0.b0
      have z0 := zb.c0
      have z1 := zb.c1
      have z2 := zb.c2
      go_simp
      refine hK.out _ _ trivial (fun _ => ?_)
      clear hK K zb z0 z1 z2
      refine wpAnyH_ready (rs := [1]) (by kernel_rfl) (by simp) ?_
      refine AllReadyH.cons (o := ({ dst := some 11, op := Op.call { callee := Callee.value (Operand.func 10), args := #[Operand.tmp 10], argTypes := #[25] }, type := 25, pos := "law.go:129", after := #[{ on := 0, ground := Ground.data }], guard := none } : Oper)) rfl (fun K hK => ?_) AllReadyH.nil
      · go_simp
        go_at_call 10
        refine (cA _ T0.bel T0.le).mono ?_
        rintro e w1 ⟨e0, rfl, hb1, P0_1⟩
        have T1 := T0.keep hb1
        refine hK.out _ _ trivial (fun _ => ?_)
        clear hK K
        refine wpAnyH_ready (rs := [3]) (by kernel_rfl) (by simp) ?_
        refine AllReadyH.cons (o := ({ dst := some 13, op := Op.call { callee := Callee.value (Operand.func 10), args := #[Operand.tmp 12], argTypes := #[25] }, type := 25, pos := "law.go:129", after := #[{ on := 2, ground := Ground.data }, { on := 1, ground := Ground.chain }], guard := none } : Oper)) rfl (fun K hK => ?_) AllReadyH.nil
        · go_simp
          go_at_call 10
          refine (cB _ T1.bel T1.le).mono ?_
          rintro e w2 ⟨e1, rfl, hb2, P1_2⟩
          have T2 := T1.keep hb2
          have P0_2 := P0_1.keep hb2
          refine hK.out _ _ trivial (fun _ => ?_)
          clear hK K
          refine wpAnyH_ready (rs := [4]) (by kernel_rfl) (by simp) ?_
          refine AllReadyH.cons (o := ({ dst := none, op := Op.store 25 (Operand.tmp 3) (Operand.tmp 11), type := 0, pos := "law.go:129", after := #[{ on := 1, ground := Ground.data }, { on := 3, ground := Ground.chain }, { on := 0, ground := Ground.phase }, { on := 1, ground := Ground.phase }, { on := 2, ground := Ground.textOnly Departure.lateStores }, { on := 3, ground := Ground.textOnly Departure.lateStoresUnsure }], guard := none } : Oper)) rfl (fun K hK => ?_) AllReadyH.nil
          · obtain ⟨q0, ya0, yc0, yb0, yd0, x0, rfl, -, R0, O0⟩ := P0_2
            obtain ⟨q1, ya1, yc1, yb1, yd1, x1, rfl, -, R1, O1⟩ := P1_2
            have zb := T2.b0
            have zf := T2.f0
            have z0 := zb.c0
            have z1 := zb.c1
            have z2 := zb.c2
            have y0 := zf.f0
            have y1 := zf.f1
            have y2 := zf.f2
            go_simp
            have U0 := T2.putp q0 (.slice ya0 x0.us.length yc0) (.slice yb0 x0.ss.length yd0)
            have R0 := R0.st3 T2.pM q0 (.slice ya0 x0.us.length yc0) (.slice yb0 x0.ss.length yd0)
            have R1 := R1.st3 T2.pM q0 (.slice ya0 x0.us.length yc0) (.slice yb0 x0.ss.length yd0)
            refine hK.out _ _ trivial (fun _ => ?_)
            clear hK K zb zf z0 z1 z2 y0 y1 y2
            unfold st3 at U0 R0 R1
            obtain ⟨u0, hu0⟩ : ∃ z9, z9 = ((w2.setCell ⟨p, 0, none⟩ (.bool q0)).setCell ⟨p, 1, none⟩ (.slice ya0 x0.us.length yc0)).setCell ⟨p, 2, none⟩ (.slice yb0 x0.ss.length yd0) := ⟨_, rfl⟩
            rw [← hu0] at U0 R0 R1 ⊢
            clear hu0
            refine wpAnyH_ready (rs := [5]) (by kernel_rfl) (by simp) ?_
            refine AllReadyH.cons (o := ({ dst := none, op := Op.store 25 (Operand.tmp 4) (Operand.tmp 13), type := 0, pos := "law.go:129", after := #[{ on := 3, ground := Ground.data }, { on := 4, ground := Ground.chain }, { on := 0, ground := Ground.phase }, { on := 1, ground := Ground.phase }, { on := 2, ground := Ground.phase }, { on := 3, ground := Ground.phase }, { on := 4, ground := Ground.phase }], guard := none } : Oper)) rfl (fun K hK => ?_) AllReadyH.nil
            · have zb := U0.b1
              have zf := U0.f1
              have z0 := zb.c0
              have z1 := zb.c1
              have z2 := zb.c2
              have y0 := zf.f0
              have y1 := zf.f1
              have y2 := zf.f2
              go_simp
              have U1 := U0.putq q1 (.slice ya1 x1.us.length yc1) (.slice yb1 x1.ss.length yd1)
              have R0 := R0.st3 U0.qM q1 (.slice ya1 x1.us.length yc1) (.slice yb1 x1.ss.length yd1)
              have R1 := R1.st3 U0.qM q1 (.slice ya1 x1.us.length yc1) (.slice yb1 x1.ss.length yd1)
              refine hK.out _ _ trivial (fun _ => ?_)
              clear hK K zb zf z0 z1 z2 y0 y1 y2
              unfold st3 at U1 R0 R1
              obtain ⟨u1, hu1⟩ : ∃ z9, z9 = ((u0.setCell ⟨q, 0, none⟩ (.bool q1)).setCell ⟨q, 1, none⟩ (.slice ya1 x1.us.length yc1)).setCell ⟨q, 2, none⟩ (.slice yb1 x1.ss.length yd1) := ⟨_, rfl⟩
              rw [← hu1] at U1 R0 R1 ⊢
              clear hu1
              refine wpAnyH_done (by kernel_rfl) ?_ _
              exact hQ _ _ _ _ _ _ _ x0 x1 U1 R0 R1 O0 O1
end Go.Proofs.Ytmhicllhjiglkaa
