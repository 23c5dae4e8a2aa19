import Derived.Test.YtidhcmhheohciaaDoorG06
import Derived.Deep.RegionHeld3
namespace Go.Proofs.YtidhcmhheohciaaDoor
open Go.RowKit
theorem Ri.takeN {w : World} {a : Option Addr} {zs : List Int} (h : Ri w a zs) (n : Nat) : Ri w a (zs.take n) := fun i x hx => h i x (by
  rw [List.getElem?_take] at hx
  split at hx
  · exact hx
  · exact absurd hx (by simp))
theorem St.lit0 (w : World) : St w (w.alloc (.cells #[] 3)) (.slice (some ⟨w.heap.size, 0, none⟩) 0 0) [] := by
  refine ⟨⟨by simp [I64], Or.inr ⟨w.heap.size, 0, #[], rfl, Nat.le_refl _, ?_, Nat.le_refl _, by unfold maxLen; omega, rfl, rfl⟩⟩, (Below.refl _ _).alloc (Nat.le_refl _) _⟩
  show (w.heap.push _)[w.heap.size]? = _
  simp
theorem St.none {w0 wr : World} {a : Option Addr} {n c : Nat} {ps : List Int} (h : St w0 wr (.slice a n c) ps) : a = none → c = 0 ∧ ps = [] := by
  intro e
  subst e
  rcases h.own.2 with ⟨h1, h2⟩ | ⟨g, cap, cur, h1, _⟩
  · simp only [Value.slice.injEq] at h1
    exact ⟨h1.2.2, List.eq_nil_of_length_eq_zero h2⟩
  · simp at h1
/-- a copy of a slice -/
theorem wpList_appZ {ops : Array Oper} {rest : List Oper} {o : Oper} {a : Act} {Q : Exit → Act → World → Prop} (w0 w1 : World) (hgd : o.guard = none) (s x : Operand)
    (ho : o.op = .call { callee := .builtin .append, args := #[s, x], argTypes := #[22, 22] })
    (v : Value) (hS : St w0 w1 v []) (hs : a.eval s = v) (az : Option Addr) (c : Nat) (zs : List Int) (hx : a.eval x = .slice az zs.length c) (hz : Ri w1 az zs) (hn : az = none → c = 0 ∧ zs = []) (hl : zs.length ≤ 1000000)
    (h : ∀ a' c' w', St w0 w' (.slice a' zs.length c') zs → wpList Tryd.prog ops Q rest (a.put o.dst (.slice a' zs.length c')) w') : wpList Tryd.prog ops Q (o :: rest) a w1 := by
  cases az with
  | none =>
    obtain ⟨rfl, rfl⟩ := hn rfl
    obtain ⟨a', c', rfl⟩ := hS.slice
    exact wpList_app0 w0 w1 hgd s x ho _ [] hS hs hx (h a' c' w1 hS)
  | some ad =>
    refine wpList_appN w0 w1 hgd s x ho v [] zs ad c hS hs hx hz (by simpa using hl) fun a' c' w' h5 => ?_
    simp only [List.length_nil, Nat.zero_add, List.nil_append] at h5 ⊢
    exact h a' c' w' h5
set_option maxRecDepth 100000 in
set_option maxHeartbeats 16000000 in
theorem lays_walk (n : Int) (xs : List Int) (a : Option Addr) (c : Nat) (w : World) (hG : Glob w) (hr : Ri w a xs) (hc : xs.length ≤ c) (hcn : a = none → c = 0) (hcl : c ≤ 17592186043904) :
    Calls Tryd.prog 3 #[.int .i64 n, .slice a xs.length c] w fun e w' => e = .returned (.bool true) ∧ Below w.heap.size w w' := by
  have hzl : (xs.take 300).length = min 300 xs.length := List.length_take ..
  have hr1 := hide ((hr.keep' (below_new (w := w) (o := .cells #[] 3))).takeN 300)
  have hL0 := hide (St.lit0 w)
  have hzn : Hid (a = none → c = 0 ∧ xs.take 300 = []) := fun h => by
    have := hcn h
    exact ⟨this, by rw [List.take_eq_nil_iff]; exact .inr (List.eq_nil_of_length_eq_zero (by omega))⟩
  have HGL := hide hG
  have hcl2 : (xs.length : Int) ≤ 17592186043904 := by omega
  have hcc2 : (xs.length : Int) ≤ c := by omega
  have hcl3 : (c : Int) ≤ 17592186043904 := by omega
  clear hG hr hcn
  generalize xs.take 300 = zs at *
  obtain ⟨M, hM⟩ : ∃ M, M = zs.length := ⟨_, rfl⟩
  have hM3 : M ≤ 300 := by omega
  have hL := hide hM
  by_cases h3 : xs.length ≤ 300
  · have hM9 : Hid (M = xs.length) := by unfold Hid; omega
    have hm1 : (xs.length : Int) ≤ 300 := by omega
    clear h3 hzl hM
    go_enter Tryd.func3, Tryd.ntmps3
    go_upto_region 2 with (at_builtin; refine wpList_appZ w (w.alloc (.cells #[] 3)) rfl (.tmp 14) (.tmp 19) rfl _ hL0.out rfl a c zs (by rw [← hL.out, hM9.out]; rfl) hr1.out hzn.out (by rw [← hL.out]; omega) ?_; intro a1 c1 w1 hS1; rw [← hL.out]; replace hS1 := hide hS1)
    have hL' := hL.out
    subst hL'
    clear hM9 hL hr1 hzn hL0
    have hz9 : zs.length ≤ 1000000 := by omega
    have hR2 := hide (hS1.out.ri.keep' (below_new (w := w1) (o := .cells #[] 3)))
    have hL1 := hide (St.lit0 w1)
    have hn1 := hide hS1.out.none
    go_upto_region 3 with (at_builtin; refine wpList_appZ w1 (w1.alloc (.cells #[] 3)) rfl (.tmp 21) (.tmp 22) rfl _ hL1.out rfl a1 c1 zs rfl hR2.out hn1.out hz9 ?_; intro a2 c2 w2 hS2; replace hS2 := hide hS2)
    have ra2 := hide (hS1.out.ri.keep' hS2.out.bel)
    have rb2 := hide hS2.out.ri
    have B2 := hide (hS1.out.bel.trans (hS2.out.bel.mono hS1.out.bel.size))
    have hc1 := hide hS1.out.cap
    have C7 := rright_any n zs a1 c1 w2 ra2.out (by omega)
    clear hS1 hS2 hR2 hL1 hn1
    cases hR : ((decide (0 ≤ n) && decide (n ≤ 4096)) && rightL n 0 zs) with
    | true =>
      rw [hR] at C7
      have hn0 : 0 ≤ n ∧ n ≤ 4096 ∧ rightL n 0 zs = true := by simpa [and_assoc] using hR
      have C11 := fun w7 h => right_any n zs a1 c1 w7 h (by omega)
      rw [hR] at C11
      obtain ⟨k, rfl⟩ : ∃ k : Nat, n = k := ⟨n.toNat, by omega⟩
      have hk : k ≤ 4096 := by omega
      have HR := hide hn0.2.2
      have C9 := fun g w4 h1 h2 => write_all g none [] k zs a1 c1 w4 h1 h2 (by simp) hk hc1.out HR.out
      simp only [List.nil_append] at C9
      have CW := waySz_len hk HR.out (wayOf k zs)
      have CL := waySz_le hk HR.out (wayOf k zs)
      have C17 := fun w8 h => rbytes_any k zs a1 c1 w8 h hk HR.out
      have C15 := fun w8 h => way_any (n := k) (xs := zs) a1 c1 w8 hk HR.out hc1.out h
      have C19 := fun g rb q w8 h1 h2 => read_ok g rb (wayB k zs (wayOf k zs)) 0 q k zs w8 h1 hk HR.out h2
      clear hR hn0
      generalize wayB k zs (wayOf k zs) = PW at *
      generalize wayOf k zs = wy at *
      rw [← CW] at CL
      clear CW
      have hPL := hide CL
      have hpl : (PW.length : Int) ≤ 1000000 := by omega
      clear CL
      go_upto_region 4 with (go_at_call 7; refine C7.mono ?_; rintro e w3 ⟨⟨j3, g3⟩, rfl⟩; have b23 : Below w2.heap.size w2 w3 := (by rw [g3]; exact below_drewN' _ _ _); have ra3 := hide (ra2.out.keep' b23); have rb3 := hide (rb2.out.keep' b23); have B3 := hide (B2.out.trans (b23.mono B2.out.size)); clear g3 b23 C7 ra2 rb2 B2)
      go_upto_region 5 with (go_at_call 8; refine (new_any _).mono ?_; rintro e w5 ⟨rfl, h5⟩; replace h5 := hide h5)
      have T5 : Hid (Wtr w5 w3.heap.size none [] ∧ Below w3.heap.size w3 w5 ∧ w5.heap.size = w3.heap.size + 1) := by
        unfold Hid; rw [h5.out]; exact ⟨wtr_new w3, below_new, by simp⟩
      clear h5
      go_upto_region 6 with (go_at_call 9; refine (C9 w3.heap.size w5 T5.out.1 (fun w' f => ra3.out.keep' (T5.out.2.1.trans (f.below (by have := T5.out.2.2; omega) (by rintro j (h | h); omega; cases h))))).mono ?_; rintro e w6 ⟨rfl, h6⟩; clear C9; replace h6 := hide h6)
      obtain ⟨r6, t6, f6, x6⟩ := h6.out
      have b36 : Below w3.heap.size w3 w6 := T5.out.2.1.trans (f6.below (by have := T5.out.2.2; omega) (by rintro j (h | h); omega; cases h))
      have ra6 := hide (ra3.out.keep' b36)
      have rb6 := hide (rb3.out.keep' b36)
      have B6 := hide (B3.out.trans (b36.mono B3.out.size))
      have T6 := hide t6
      clear h6 t6 f6 x6 b36 T5 B3 ra3 rb3
      go_upto_region 10 with first | (go_at_call 10; refine (lays_any _).mono ?_; rintro e w7 ⟨rfl, b67⟩; have ra7 := hide (ra6.out.keep' b67); have rb7 := hide (rb6.out.keep' b67); have B7 := hide (B6.out.trans (b67.mono B6.out.size)); have T7 := hide (T6.out.below b67); clear b67 ra6 rb6 B6 T6) | (go_at_call 11; refine (C11 w7 ra7.out).mono ?_; rintro e w' ⟨h, rfl⟩; obtain rfl := h.symm; clear C11) | (go_at_call 12; refine (rsame_any zs zs a1 a2 c1 c2 w7 ra7.out rb7.out (by omega) (by omega)).mono ?_; rintro e w8 ⟨⟨j8, g8⟩, rfl⟩; have b78 : Below w7.heap.size w7 w8 := (by rw [g8]; exact below_drewN' _ _ _); have ra8 := hide (ra7.out.keep' b78); have B8 := hide (B7.out.trans (b78.mono B7.out.size)); have T8 := hide (T7.out.below b78); clear g8 b78 ra7 rb7 B7 T7; rw [show sameL zs zs = true from decide_eq_true rfl])
      go_upto_region 11 with (go_at_call 17; refine (C17 w8 ra8.out).mono ?_; rintro e w9 ⟨a9, c9, rfl, bk9, hn9, b89⟩; have ra9 := hide (ra8.out.keep' b89); have B9 := hide (B8.out.trans (b89.mono B8.out.size)); have T9 := hide (T8.out.below b89); have K9 := hide (And.intro bk9 hn9); clear C17 bk9 hn9 b89 ra8 B8 T8)
      go_upto_region 12 with (go_at_call 18; refine (read_any a9 c9 PW w9 (K9.out.1 w9 (Fr.refl _ _)).bs (by have := hPL.out; omega)).mono ?_; rintro e w10 ⟨rfl, h10⟩; have b910 : Below w9.heap.size w9 w10 := (by rw [h10]; exact (below_new).alloc (by simp) _); have D10 := hide (show Rdr w10 (w9.heap.size + 1) w9.heap.size PW 0 PW.length by rw [h10]; exact rdr_new PW w9 (by have := hPL.out; omega)); have B10 := hide b910; clear h10 b910)
      go_upto_region 13 with (go_at_call 19; refine (C19 (w9.heap.size + 1) w9.heap.size PW.length w10 D10.out (by simp [leftOf])).mono ?_; rintro e w11 ⟨a11, c11, rfl, z1, z2, z3, z4, z5⟩; have f11 := hide (show Below w9.heap.size w9 w11 from B10.out.trans (z5.below B10.out.size (by rintro j rfl; omega))); replace z3 := hide z3; replace z4 := hide z4; clear C19 z1 z2 z5)
      have T11 := T9.out.below f11.out
      have ra11 := hide (ra9.out.keep' f11.out)
      have B11 := hide (B9.out.trans (f11.out.mono B9.out.size))
      have BC1 : Calls Tryd.prog 14 #[.pointer (some ⟨w3.heap.size, 0, none⟩)] w11.drew fun e w' => e = .returned (.slice (some ⟨w11.heap.size, 0, none⟩) PW.length PW.length) ∧ w' = (w11.alloc (rowObj PW)).drew :=
        bytes_any w3.heap.size r6 PW w11.drew (T11.below (Below.refl _ _).drew) (by have := hPL.out; omega)
      have BA : Below w11.heap.size w11 ((w11.alloc (rowObj PW)).drew) := (below_new).drew
      have s1 : (convert 33 9 (.slice (some ⟨w11.heap.size, 0, none⟩) PW.length PW.length)).run Tryd.prog ((w11.alloc (rowObj PW)).drew) = .ok (.string ⟨PW.toArray⟩) ((w11.alloc (rowObj PW)).drew) :=
        conv_str PW (some ⟨w11.heap.size, 0, none⟩) PW.length _ (rowObj_row (heap_alloc_new w11 _)) (fun h => by cases h)
      have s2 : (convert 33 9 (.slice a9 PW.length c9)).run Tryd.prog w11.drew = .ok (.string ⟨PW.toArray⟩) w11.drew := conv_str PW a9 c9 w11.drew (K9.out.1 _ (Fr.ofBelow f11.out).drew) K9.out.2
      have s3 : (convert 33 9 (.slice a9 PW.length c9)).run Tryd.prog ((w11.alloc (rowObj PW)).drew) = .ok (.string ⟨PW.toArray⟩) ((w11.alloc (rowObj PW)).drew) := conv_str PW a9 c9 _ (K9.out.1 _ ((Fr.ofBelow f11.out).trans (Fr.ofBelow BA))) K9.out.2
      have s0 : (convert 33 9 (.slice a9 PW.length c9)).run Tryd.prog w11 = .ok (.string ⟨PW.toArray⟩) w11 := conv_str PW a9 c9 w11 (K9.out.1 _ (Fr.ofBelow f11.out)) K9.out.2
      have HS := hide (show ∀ W, Below w11.heap.size w11 W → (convert 33 9 (.slice a9 PW.length c9)).run Tryd.prog W = .ok (.string ⟨PW.toArray⟩) W from fun W hW => conv_str PW a9 c9 W (K9.out.1 _ ((Fr.ofBelow f11.out).trans (Fr.ofBelow hW))) K9.out.2)
      have CC15 := C15 ((w11.alloc (rowObj PW)).drew) (ra11.out.keep' BA)
      have HBA := hide BA
      clear BA T11 T9 ra9 B9 B10 C15 D10 K9
      have hwy : ((wy : Int) == (wy : Int)) = true := beq_self_eq_true _
      clear hc hcl hcl2 hcc2 hcl3 HGL
      refine wp_region_held_drew (S := (fun W => (convert 33 9 (.slice a9 PW.length c9)).run Tryd.prog W = .ok (.string ⟨PW.toArray⟩) W)) (by kernel_rfl) s2 (fun hH0 => ?_)
      refine wpAnyH_take (i := 0) (oi := ({ dst := some 89, op := Op.move (Operand.tmp 7), type := 24, pos := "law.go:51", after := #[], guard := none } : Oper)) (v := ?_) rfl (by kernel_rfl) (by kernel_rfl) (by kernel_rfl) (fun _ _ _ h => h) (Or.inl ⟨by rfl, ?_⟩) (by assumption) ?_
      rotate_left
      · (intro wz hSw; (try dsimp only at hSw); go_simp; try with_reducible rfl)
      simp only [Act.put, List.setIfInBounds_toArray, List.set_cons_zero, List.set_cons_succ]
      refine wpAnyH_take (i := 3) (oi := ({ dst := some 92, op := Op.move (Operand.tmp 9), type := 33, pos := "law.go:51", after := #[], guard := none } : Oper)) (v := ?_) rfl (by kernel_rfl) (by kernel_rfl) (by kernel_rfl) (fun _ _ _ h => h) (Or.inl ⟨by rfl, ?_⟩) (by assumption) ?_
      rotate_left
      · (intro wz hSw; (try dsimp only at hSw); go_simp; try with_reducible rfl)
      simp only [Act.put, List.setIfInBounds_toArray, List.set_cons_zero, List.set_cons_succ]
      refine wpAnyH_take (i := 4) (oi := ({ dst := some 93, op := Op.convert 33 9 (Operand.tmp 92), type := 9, pos := "law.go:51", after := #[{ on := 3, ground := Ground.data }], guard := none } : Oper)) (v := ?_) rfl (by kernel_rfl) (by kernel_rfl) (by kernel_rfl) (fun _ _ _ h => h) (Or.inl ⟨by rfl, ?_⟩) (by assumption) ?_
      rotate_left
      · (intro wz hSw; (try dsimp only at hSw); go_simp; try with_reducible rfl)
      simp only [Act.put, List.setIfInBounds_toArray, List.set_cons_zero, List.set_cons_succ]
      refine wpAnyH_ready (rs := [1]) (by kernel_rfl) (by simp) ?_
      refine AllReadyH.cons (o := ({ dst := some 90, op := Op.call { callee := Callee.value (Operand.func 14), args := #[Operand.tmp 89], argTypes := #[24] }, type := 33, pos := "law.go:51", after := #[{ on := 0, ground := Ground.data }], guard := none } : Oper)) rfl (fun K hK => ?_) AllReadyH.nil
      go_simp
      go_at_call 14
      refine BC1.mono ?_
      rintro e w' ⟨rfl, rfl⟩
      (try dsimp only)
      refine hK.out _ _ s3 (fun hH1 => ?_)
      clear hK K hH0
      (try simp only [Act.put, List.setIfInBounds_toArray, List.set_cons_zero, List.set_cons_succ])
      refine wpAnyH_ready (rs := [2]) (by kernel_rfl) (by simp) ?_
      refine AllReadyH.cons (o := ({ dst := some 91, op := Op.convert 33 9 (Operand.tmp 90), type := 9, pos := "law.go:51", after := #[{ on := 1, ground := Ground.data }], guard := none } : Oper)) rfl (fun K hK => ?_) AllReadyH.nil
      go_simp
      (try dsimp only)
      refine hK.out _ _ s3 (fun hH2 => ?_)
      clear hK K hH1
      (try simp only [Act.put, List.setIfInBounds_toArray, List.set_cons_zero, List.set_cons_succ])
      refine wpAnyH_take (i := 5) (oi := ({ dst := some 94, op := Op.binOp BinOp.eql 9 (Operand.tmp 91) (Operand.tmp 93) 9, type := 4, pos := "law.go:51", after := #[{ on := 2, ground := Ground.data }, { on := 4, ground := Ground.data }], guard := none } : Oper)) (v := ?_) rfl (by kernel_rfl) (by kernel_rfl) (by kernel_rfl) (fun _ _ _ h => h) (Or.inl ⟨by rfl, ?_⟩) (by assumption) ?_
      rotate_left
      · (intro wz hSw; (try dsimp only at hSw); go_simp; try with_reducible rfl)
      simp only [Act.put, List.setIfInBounds_toArray, List.set_cons_zero, List.set_cons_succ]
      refine wpAnyH_take (i := 6) (oi := ({ dst := some 95, op := Op.move (Operand.tmp 94), type := 4, pos := "law.go:51", after := #[{ on := 5, ground := Ground.data }, { on := 1, ground := Ground.chain }], guard := none } : Oper)) (v := ?_) rfl (by kernel_rfl) (by kernel_rfl) (by kernel_rfl) (fun _ _ _ h => h) (Or.inl ⟨by rfl, ?_⟩) (by assumption) ?_
      rotate_left
      · (intro wz hSw; (try dsimp only at hSw); go_simp; try with_reducible rfl)
      simp only [Act.put, List.setIfInBounds_toArray, List.set_cons_zero, List.set_cons_succ]
      refine wpAnyH_take (i := 7) (oi := ({ dst := some 96, op := Op.move (Operand.tmp 0), type := 3, pos := "law.go:51", after := #[{ on := 6, ground := Ground.guard }], guard := some (6, true) } : Oper)) (v := ?_) rfl (by kernel_rfl) (by kernel_rfl) (by kernel_rfl) (fun _ _ _ h => h) (Or.inl ⟨by rfl, ?_⟩) (by assumption) ?_
      rotate_left
      · (intro wz hSw; (try dsimp only at hSw); go_simp; try with_reducible rfl)
      simp only [Act.put, List.setIfInBounds_toArray, List.set_cons_zero, List.set_cons_succ]
      refine wpAnyH_take (i := 8) (oi := ({ dst := some 97, op := Op.move (Operand.tmp 1), type := 22, pos := "law.go:51", after := #[{ on := 6, ground := Ground.guard }], guard := some (6, true) } : Oper)) (v := ?_) rfl (by kernel_rfl) (by kernel_rfl) (by kernel_rfl) (fun _ _ _ h => h) (Or.inl ⟨by rfl, ?_⟩) (by assumption) ?_
      rotate_left
      · (intro wz hSw; (try dsimp only at hSw); go_simp; try with_reducible rfl)
      simp only [Act.put, List.setIfInBounds_toArray, List.set_cons_zero, List.set_cons_succ]
      refine wpAnyH_take (i := 10) (oi := ({ dst := some 99, op := Op.move (Operand.tmp 10), type := 3, pos := "law.go:51", after := #[{ on := 6, ground := Ground.guard }], guard := some (6, true) } : Oper)) (v := ?_) rfl (by kernel_rfl) (by kernel_rfl) (by kernel_rfl) (fun _ _ _ h => h) (Or.inl ⟨by rfl, ?_⟩) (by assumption) ?_
      rotate_left
      · (intro wz hSw; (try dsimp only at hSw); go_simp; try with_reducible rfl)
      simp only [Act.put, List.setIfInBounds_toArray, List.set_cons_zero, List.set_cons_succ]
      refine wpAnyH_ready (rs := [9]) (by kernel_rfl) (by simp) ?_
      refine AllReadyH.cons (o := ({ dst := some 98, op := Op.call { callee := Callee.value (Operand.func 15), args := #[Operand.tmp 96, Operand.tmp 97], argTypes := #[3, 22] }, type := 3, pos := "law.go:51", after := #[{ on := 7, ground := Ground.data }, { on := 8, ground := Ground.data }, { on := 6, ground := Ground.chain }, { on := 6, ground := Ground.guard }], guard := some (6, true) } : Oper)) rfl (fun K hK => ?_) AllReadyH.nil
      go_simp
      go_at_call 15
      refine CC15.mono ?_
      rintro e w12 ⟨b12, rfl⟩
      have B12 := hide (HBA.out.trans (b12.mono HBA.out.size))
      have s12 := HS.out w12 B12.out
      have CC12 := rsame_any zs zs a11 a1 c11 c1 w12 (z3.out w12 ((Fr.ofBelow B12.out).mono (fun _ _ h => h))) (ra11.out.keep' B12.out) (by omega) (by omega)
      clear b12
      (try dsimp only)
      refine hK.out _ _ s12 (fun hH3 => ?_)
      clear hK K hH2
      (try simp only [Act.put, List.setIfInBounds_toArray, List.set_cons_zero, List.set_cons_succ])
      refine wpAnyH_take (i := 11) (oi := ({ dst := some 100, op := Op.binOp BinOp.eql 3 (Operand.tmp 98) (Operand.tmp 99) 3, type := 4, pos := "law.go:51", after := #[{ on := 9, ground := Ground.data }, { on := 10, ground := Ground.data }, { on := 6, ground := Ground.guard }], guard := some (6, true) } : Oper)) (v := ?_) rfl (by kernel_rfl) (by kernel_rfl) (by kernel_rfl) (fun _ _ _ h => h) (Or.inl ⟨by rfl, ?_⟩) (by assumption) ?_
      rotate_left
      · (intro wz hSw; (try dsimp only at hSw); go_simp; try with_reducible rfl)
      simp only [Act.put, List.setIfInBounds_toArray, List.set_cons_zero, List.set_cons_succ]
      refine wpAnyH_take (i := 12) (oi := ({ dst := some 101, op := Op.pick (Operand.tmp 95) (Operand.tmp 100) (Operand.const (Value.bool false)), type := 4, pos := "law.go:51", after := #[{ on := 6, ground := Ground.data }, { on := 11, ground := Ground.data }], guard := none } : Oper)) (v := ?_) rfl (by kernel_rfl) (by kernel_rfl) (by kernel_rfl) (fun _ _ _ h => h) (Or.inl ⟨by rfl, ?_⟩) (by assumption) ?_
      rotate_left
      · (intro wz hSw; (try dsimp only at hSw); go_simp; try with_reducible rfl)
      simp only [Act.put, List.setIfInBounds_toArray, List.set_cons_zero, List.set_cons_succ]
      refine wpAnyH_take (i := 13) (oi := ({ dst := some 102, op := Op.move (Operand.tmp 101), type := 4, pos := "law.go:51", after := #[{ on := 12, ground := Ground.data }, { on := 9, ground := Ground.chain }], guard := none } : Oper)) (v := ?_) rfl (by kernel_rfl) (by kernel_rfl) (by kernel_rfl) (fun _ _ _ h => h) (Or.inl ⟨by rfl, ?_⟩) (by assumption) ?_
      rotate_left
      · (intro wz hSw; (try dsimp only at hSw); go_simp; try with_reducible rfl)
      simp only [Act.put, List.setIfInBounds_toArray, List.set_cons_zero, List.set_cons_succ]
      refine wpAnyH_take (i := 14) (oi := ({ dst := some 103, op := Op.move (Operand.tmp 13), type := 27, pos := "law.go:51", after := #[{ on := 13, ground := Ground.guard }], guard := some (13, true) } : Oper)) (v := ?_) rfl (by kernel_rfl) (by kernel_rfl) (by kernel_rfl) (fun _ _ _ h => h) (Or.inl ⟨by rfl, ?_⟩) (by assumption) ?_
      rotate_left
      · (intro wz hSw; (try dsimp only at hSw); go_simp; try with_reducible rfl)
      simp only [Act.put, List.setIfInBounds_toArray, List.set_cons_zero, List.set_cons_succ]
      refine wpAnyH_take (i := 15) (oi := ({ dst := some 104, op := Op.binOp BinOp.eql 27 (Operand.tmp 103) (Operand.const Value.nilIface) 27, type := 4, pos := "law.go:51", after := #[{ on := 14, ground := Ground.data }, { on := 13, ground := Ground.guard }], guard := some (13, true) } : Oper)) (v := ?_) rfl (by kernel_rfl) (by kernel_rfl) (by kernel_rfl) (fun _ _ _ h => h) (Or.inl ⟨by rfl, ?_⟩) (by assumption) ?_
      rotate_left
      · (intro wz hSw; (try dsimp only at hSw); go_simp; try with_reducible rfl)
      simp only [Act.put, List.setIfInBounds_toArray, List.set_cons_zero, List.set_cons_succ]
      refine wpAnyH_take (i := 16) (oi := ({ dst := some 105, op := Op.pick (Operand.tmp 102) (Operand.tmp 104) (Operand.const (Value.bool false)), type := 4, pos := "law.go:51", after := #[{ on := 13, ground := Ground.data }, { on := 15, ground := Ground.data }], guard := none } : Oper)) (v := ?_) rfl (by kernel_rfl) (by kernel_rfl) (by kernel_rfl) (fun _ _ _ h => h) (Or.inl ⟨by rfl, ?_⟩) (by assumption) ?_
      rotate_left
      · (intro wz hSw; (try dsimp only at hSw); go_simp; try with_reducible rfl)
      simp only [Act.put, List.setIfInBounds_toArray, List.set_cons_zero, List.set_cons_succ]
      refine wpAnyH_take (i := 17) (oi := ({ dst := some 106, op := Op.move (Operand.tmp 105), type := 4, pos := "law.go:51", after := #[{ on := 16, ground := Ground.data }, { on := 13, ground := Ground.chain }], guard := none } : Oper)) (v := ?_) rfl (by kernel_rfl) (by kernel_rfl) (by kernel_rfl) (fun _ _ _ h => h) (Or.inl ⟨by rfl, ?_⟩) (by assumption) ?_
      rotate_left
      · (intro wz hSw; (try dsimp only at hSw); go_simp; try with_reducible rfl)
      simp only [Act.put, List.setIfInBounds_toArray, List.set_cons_zero, List.set_cons_succ]
      refine wpAnyH_take (i := 18) (oi := ({ dst := some 107, op := Op.move (Operand.tmp 12), type := 22, pos := "law.go:51", after := #[{ on := 17, ground := Ground.guard }], guard := some (17, true) } : Oper)) (v := ?_) rfl (by kernel_rfl) (by kernel_rfl) (by kernel_rfl) (fun _ _ _ h => h) (Or.inl ⟨by rfl, ?_⟩) (by assumption) ?_
      rotate_left
      · (intro wz hSw; (try dsimp only at hSw); go_simp; try with_reducible rfl)
      simp only [Act.put, List.setIfInBounds_toArray, List.set_cons_zero, List.set_cons_succ]
      refine wpAnyH_take (i := 19) (oi := ({ dst := some 108, op := Op.move (Operand.tmp 1), type := 22, pos := "law.go:51", after := #[{ on := 17, ground := Ground.guard }], guard := some (17, true) } : Oper)) (v := ?_) rfl (by kernel_rfl) (by kernel_rfl) (by kernel_rfl) (fun _ _ _ h => h) (Or.inl ⟨by rfl, ?_⟩) (by assumption) ?_
      rotate_left
      · (intro wz hSw; (try dsimp only at hSw); go_simp; try with_reducible rfl)
      simp only [Act.put, List.setIfInBounds_toArray, List.set_cons_zero, List.set_cons_succ]
      refine wpAnyH_ready (rs := [20]) (by kernel_rfl) (by simp) ?_
      refine AllReadyH.cons (o := ({ dst := some 109, op := Op.call { callee := Callee.value (Operand.func 12), args := #[Operand.tmp 107, Operand.tmp 108], argTypes := #[22, 22] }, type := 4, pos := "law.go:51", after := #[{ on := 18, ground := Ground.data }, { on := 19, ground := Ground.data }, { on := 17, ground := Ground.chain }, { on := 17, ground := Ground.guard }], guard := some (17, true) } : Oper)) rfl (fun K hK => ?_) AllReadyH.nil
      go_simp
      go_at_call 12
      refine CC12.mono ?_
      rintro e w13 ⟨⟨j13, g13⟩, rfl⟩
      have B13 := hide (show Below w11.heap.size w11 w13 by rw [g13]; exact below_drewN B12.out j13)
      have s13 := HS.out w13 B13.out
      have CC20 := left_any (w9.heap.size + 1) w9.heap.size PW PW.length PW.length w13 (z4.out.keep (Fr.ofBelow (S := fun _ => False) B13.out) (fun h => h) (fun h => h))
      clear g13 CC12
      rw [show sameL zs zs = true from decide_eq_true rfl]
      (try dsimp only)
      refine hK.out _ _ s13 (fun hH4 => ?_)
      clear hK K hH3
      (try simp only [Act.put, List.setIfInBounds_toArray, List.set_cons_zero, List.set_cons_succ])
      refine wpAnyH_take (i := 21) (oi := ({ dst := some 110, op := Op.pick (Operand.tmp 106) (Operand.tmp 109) (Operand.const (Value.bool false)), type := 4, pos := "law.go:51", after := #[{ on := 17, ground := Ground.data }, { on := 20, ground := Ground.data }], guard := none } : Oper)) (v := ?_) rfl (by kernel_rfl) (by kernel_rfl) (by kernel_rfl) (fun _ _ _ h => h) (Or.inl ⟨by rfl, ?_⟩) (by assumption) ?_
      rotate_left
      · (intro wz hSw; (try dsimp only at hSw); go_simp; try with_reducible rfl)
      simp only [Act.put, List.setIfInBounds_toArray, List.set_cons_zero, List.set_cons_succ]
      refine wpAnyH_take (i := 22) (oi := ({ dst := some 111, op := Op.move (Operand.tmp 110), type := 4, pos := "law.go:51", after := #[{ on := 21, ground := Ground.data }, { on := 20, ground := Ground.chain }], guard := none } : Oper)) (v := ?_) rfl (by kernel_rfl) (by kernel_rfl) (by kernel_rfl) (fun _ _ _ h => h) (Or.inl ⟨by rfl, ?_⟩) (by assumption) ?_
      rotate_left
      · (intro wz hSw; (try dsimp only at hSw); go_simp; try with_reducible rfl)
      simp only [Act.put, List.setIfInBounds_toArray, List.set_cons_zero, List.set_cons_succ]
      refine wpAnyH_take (i := 23) (oi := ({ dst := some 112, op := Op.move (Operand.tmp 11), type := 39, pos := "law.go:51", after := #[{ on := 22, ground := Ground.guard }], guard := some (22, true) } : Oper)) (v := ?_) rfl (by kernel_rfl) (by kernel_rfl) (by kernel_rfl) (fun _ _ _ h => h) (Or.inl ⟨by rfl, ?_⟩) (by assumption) ?_
      rotate_left
      · (intro wz hSw; (try dsimp only at hSw); go_simp; try with_reducible rfl)
      simp only [Act.put, List.setIfInBounds_toArray, List.set_cons_zero, List.set_cons_succ]
      refine wpAnyH_ready (rs := [24]) (by kernel_rfl) (by simp) ?_
      refine AllReadyH.cons (o := ({ dst := some 113, op := Op.call { callee := Callee.value (Operand.func 20), args := #[Operand.tmp 112], argTypes := #[39] }, type := 3, pos := "law.go:51", after := #[{ on := 23, ground := Ground.data }, { on := 22, ground := Ground.chain }, { on := 22, ground := Ground.guard }], guard := some (22, true) } : Oper)) rfl (fun K hK => ?_) AllReadyH.nil
      go_simp
      go_at_call 20
      refine CC20.mono ?_
      rintro e w14 ⟨rfl, j14, g14⟩
      have B14 := hide (show Below w11.heap.size w11 w14 by rw [g14]; exact below_drewN B13.out j14)
      have s14 := HS.out w14 B14.out
      clear g14 CC20
      (try dsimp only)
      refine hK.out _ _ s14 (fun hH5 => ?_)
      clear hK K hH4
      (try simp only [Act.put, List.setIfInBounds_toArray, List.set_cons_zero, List.set_cons_succ])
      refine wpAnyH_take (i := 25) (oi := ({ dst := some 114, op := Op.binOp BinOp.eql 3 (Operand.tmp 113) (Operand.const (Value.int IntKind.i64 0)) 3, type := 4, pos := "law.go:51", after := #[{ on := 24, ground := Ground.data }, { on := 22, ground := Ground.guard }], guard := some (22, true) } : Oper)) (v := ?_) rfl (by kernel_rfl) (by kernel_rfl) (by kernel_rfl) (fun _ _ _ h => h) (Or.inl ⟨by rfl, ?_⟩) (by assumption) ?_
      rotate_left
      · (intro wz hSw; (try dsimp only at hSw); go_simp; try with_reducible rfl)
      simp only [Act.put, List.setIfInBounds_toArray, List.set_cons_zero, List.set_cons_succ]
      refine wpAnyH_take (i := 26) (oi := ({ dst := some 115, op := Op.pick (Operand.tmp 111) (Operand.tmp 114) (Operand.const (Value.bool false)), type := 4, pos := "law.go:51", after := #[{ on := 22, ground := Ground.data }, { on := 25, ground := Ground.data }], guard := none } : Oper)) (v := ?_) rfl (by kernel_rfl) (by kernel_rfl) (by kernel_rfl) (fun _ _ _ h => h) (Or.inl ⟨by rfl, ?_⟩) (by assumption) ?_
      rotate_left
      · (intro wz hSw; (try dsimp only at hSw); go_simp; try with_reducible rfl)
      simp only [Act.put, List.setIfInBounds_toArray, List.set_cons_zero, List.set_cons_succ]
      refine wpAnyH_take (i := 27) (oi := ({ dst := some 4, op := Op.assign (Operand.tmp 115), type := 4, pos := "law.go:51", after := #[{ on := 26, ground := Ground.data }, { on := 24, ground := Ground.chain }, { on := 0, ground := Ground.phase }, { on := 1, ground := Ground.phase }, { on := 2, ground := Ground.phase }, { on := 3, ground := Ground.phase }, { on := 4, ground := Ground.phase }, { on := 5, ground := Ground.phase }, { on := 6, ground := Ground.phase }, { on := 7, ground := Ground.phase }, { on := 8, ground := Ground.phase }, { on := 9, ground := Ground.phase }, { on := 10, ground := Ground.phase }, { on := 11, ground := Ground.phase }, { on := 12, ground := Ground.phase }, { on := 13, ground := Ground.phase }, { on := 14, ground := Ground.phase }, { on := 15, ground := Ground.phase }, { on := 16, ground := Ground.phase }, { on := 17, ground := Ground.phase }, { on := 18, ground := Ground.phase }, { on := 19, ground := Ground.phase }, { on := 20, ground := Ground.phase }, { on := 21, ground := Ground.phase }, { on := 22, ground := Ground.phase }, { on := 23, ground := Ground.phase }, { on := 24, ground := Ground.phase }, { on := 25, ground := Ground.phase }, { on := 26, ground := Ground.phase }], guard := none } : Oper)) (v := ?_) rfl (by kernel_rfl) (by kernel_rfl) (by kernel_rfl) (fun _ _ _ h => h) (Or.inl ⟨by rfl, ?_⟩) (by assumption) ?_
      rotate_left
      · (intro wz hSw; (try dsimp only at hSw); go_simp; try with_reducible rfl)
      simp only [Act.put, List.setIfInBounds_toArray, List.set_cons_zero, List.set_cons_succ]
      refine wpAnyH_done (by kernel_rfl) ?_ _
      go_wp2
      go_ret
      exact ⟨by simp, B11.out.trans (B14.out.mono B11.out.size)⟩
    | false =>
      rw [hR] at C7
      have C11 := fun w7 h => right_any n zs a1 c1 w7 h (by omega)
      rw [hR] at C11
      have C9 := fun g w4 h => write_no g n zs a1 c1 w4 h (by omega) hR
      have C15 := fun w4 h => way_no n zs a1 c1 w4 h (by omega) hR
      have C16 := fun w4 h => size_no n 0 zs a1 c1 w4 h (by omega) hR
      clear hR
      go_upto_region 4 with (go_at_call 7; refine C7.mono ?_; rintro e w3 ⟨⟨j3, g3⟩, rfl⟩; have b23 : Below w2.heap.size w2 w3 := (by rw [g3]; exact below_drewN' _ _ _); have ra3 := hide (ra2.out.keep' b23); have rb3 := hide (rb2.out.keep' b23); have B3 := hide (B2.out.trans (b23.mono B2.out.size)); clear g3 b23 C7 ra2 rb2 B2)
      go_upto_region 5 with (go_at_call 8; refine (new_any _).mono ?_; rintro e w5 ⟨rfl, h5⟩; replace h5 := hide h5)
      have b35 : Below w3.heap.size w3 w5 := by rw [h5.out]; exact below_new
      have T5 := hide (show Wtr w5 w3.heap.size none [] by rw [h5.out]; exact wtr_new w3)
      have ra5 := hide (ra3.out.keep' b35)
      have rb5 := hide (rb3.out.keep' b35)
      have B5 := hide (B3.out.trans (b35.mono B3.out.size))
      clear h5 b35 ra3 rb3 B3
      go_upto_region 6 with (go_at_call 9; refine (C9 w3.heap.size w5 ra5.out).mono ?_; rintro e w6 ⟨h6, rfl⟩; obtain rfl := h6.symm; clear C9)
      go_upto_region 9 with first | (go_at_call 10; refine (lays_any _).mono ?_; rintro e w7 ⟨rfl, b67⟩; have ra7 := hide (ra5.out.keep' b67); have rb7 := hide (rb5.out.keep' b67); have B7 := hide (B5.out.trans (b67.mono B5.out.size)); have T7 := hide (T5.out.below b67); clear b67 ra5 rb5 B5 T5) | (go_at_call 11; refine (C11 w7 ra7.out).mono ?_; rintro e w' ⟨h, rfl⟩; obtain rfl := h.symm; clear C11) | (go_at_call 12; refine (rsame_any zs zs a1 a2 c1 c2 w7 ra7.out rb7.out (by omega) (by omega)).mono ?_; rintro e w8 ⟨⟨j8, g8⟩, rfl⟩; have b78 : Below w7.heap.size w7 w8 := (by rw [g8]; exact below_drewN' _ _ _); have ra8 := hide (ra7.out.keep' b78); have B8 := hide (B7.out.trans (b78.mono B7.out.size)); have T8 := hide (T7.out.below b78); clear g8 b78 ra7 rb7 B7 T7; rw [show sameL zs zs = true from decide_eq_true rfl])
      have G8 : Glob w8 := (B8.out.cell (p := ⟨0, 0, none⟩) HGL.out.lt).trans HGL.out
      have C13 := fis_any [] (.iface 32 (.int .i64 1)) 1 1 w8 G8 rfl (by omega)
      clear G8
      go_wp2_with first | (go_at_call 13; refine C13.mono ?_; rintro e w9 ⟨rfl, f9⟩; have b89 := f9.below (Nat.le_refl _) (fun _ h => h.elim); have ra9 := hide (ra8.out.keep' b89); have B9 := hide (B8.out.trans (b89.mono B8.out.size)); have C14 := bytes_any w3.heap.size none [] w9 (T8.out.below b89) (by simp); clear C13 f9 b89 ra8 B8 T8) | (go_at_call 14; refine C14.mono ?_; rintro e w10 ⟨rfl, h10⟩; have b910 : Below w9.heap.size w9 w10 := (by rw [h10]; exact below_new); have ra10 := hide (ra9.out.keep' b910); have B10 := hide (B9.out.trans (b910.mono B9.out.size)); clear C14 h10 b910 ra9 B9) | (go_at_call 15; refine (C15 w10 ra10.out).mono ?_; rintro e w' ⟨h, rfl⟩; obtain rfl := h.symm; clear C15) | (go_at_call 16; refine (C16 w10 ra10.out).mono ?_; rintro e w' ⟨h, rfl⟩; obtain rfl := h.symm; clear C16)
      go_ret
      exact ⟨by simp, B10.out⟩
  · have hM9 : Hid (M = 300) := by unfold Hid; omega
    have hm1 : ¬ (xs.length : Int) ≤ 300 := by omega
    have hm2 : (300 : Int) ≤ xs.length := by omega
    have hm3 : (300 : Int) < xs.length := by omega
    have hm4 : ¬ (xs.length : Int) < 300 := by omega
    clear h3 hzl hM
    go_enter Tryd.func3, Tryd.ntmps3
    go_upto_region 2 with (at_builtin; refine wpList_appZ w (w.alloc (.cells #[] 3)) rfl (.tmp 14) (.tmp 19) rfl _ hL0.out rfl a c zs (by rw [← hL.out, hM9.out]; rfl) hr1.out hzn.out (by rw [← hL.out]; omega) ?_; intro a1 c1 w1 hS1; rw [← hL.out]; replace hS1 := hide hS1)
    have hL' := hL.out
    subst hL'
    clear hM9 hL hr1 hzn hL0
    have hz9 : zs.length ≤ 1000000 := by omega
    have hR2 := hide (hS1.out.ri.keep' (below_new (w := w1) (o := .cells #[] 3)))
    have hL1 := hide (St.lit0 w1)
    have hn1 := hide hS1.out.none
    go_upto_region 3 with (at_builtin; refine wpList_appZ w1 (w1.alloc (.cells #[] 3)) rfl (.tmp 21) (.tmp 22) rfl _ hL1.out rfl a1 c1 zs rfl hR2.out hn1.out hz9 ?_; intro a2 c2 w2 hS2; replace hS2 := hide hS2)
    have ra2 := hide (hS1.out.ri.keep' hS2.out.bel)
    have rb2 := hide hS2.out.ri
    have B2 := hide (hS1.out.bel.trans (hS2.out.bel.mono hS1.out.bel.size))
    have hc1 := hide hS1.out.cap
    have C7 := rright_any n zs a1 c1 w2 ra2.out (by omega)
    clear hS1 hS2 hR2 hL1 hn1
    cases hR : ((decide (0 ≤ n) && decide (n ≤ 4096)) && rightL n 0 zs) with
    | true =>
      rw [hR] at C7
      have hn0 : 0 ≤ n ∧ n ≤ 4096 ∧ rightL n 0 zs = true := by simpa [and_assoc] using hR
      have C11 := fun w7 h => right_any n zs a1 c1 w7 h (by omega)
      rw [hR] at C11
      obtain ⟨k, rfl⟩ : ∃ k : Nat, n = k := ⟨n.toNat, by omega⟩
      have hk : k ≤ 4096 := by omega
      have HR := hide hn0.2.2
      have C9 := fun g w4 h1 h2 => write_all g none [] k zs a1 c1 w4 h1 h2 (by simp) hk hc1.out HR.out
      simp only [List.nil_append] at C9
      have CW := waySz_len hk HR.out (wayOf k zs)
      have CL := waySz_le hk HR.out (wayOf k zs)
      have C17 := fun w8 h => rbytes_any k zs a1 c1 w8 h hk HR.out
      have C15 := fun w8 h => way_any (n := k) (xs := zs) a1 c1 w8 hk HR.out hc1.out h
      have C19 := fun g rb q w8 h1 h2 => read_ok g rb (wayB k zs (wayOf k zs)) 0 q k zs w8 h1 hk HR.out h2
      clear hR hn0
      generalize wayB k zs (wayOf k zs) = PW at *
      generalize wayOf k zs = wy at *
      rw [← CW] at CL
      clear CW
      have hPL := hide CL
      have hpl : (PW.length : Int) ≤ 1000000 := by omega
      clear CL
      go_upto_region 4 with (go_at_call 7; refine C7.mono ?_; rintro e w3 ⟨⟨j3, g3⟩, rfl⟩; have b23 : Below w2.heap.size w2 w3 := (by rw [g3]; exact below_drewN' _ _ _); have ra3 := hide (ra2.out.keep' b23); have rb3 := hide (rb2.out.keep' b23); have B3 := hide (B2.out.trans (b23.mono B2.out.size)); clear g3 b23 C7 ra2 rb2 B2)
      go_upto_region 5 with (go_at_call 8; refine (new_any _).mono ?_; rintro e w5 ⟨rfl, h5⟩; replace h5 := hide h5)
      have T5 : Hid (Wtr w5 w3.heap.size none [] ∧ Below w3.heap.size w3 w5 ∧ w5.heap.size = w3.heap.size + 1) := by
        unfold Hid; rw [h5.out]; exact ⟨wtr_new w3, below_new, by simp⟩
      clear h5
      go_upto_region 6 with (go_at_call 9; refine (C9 w3.heap.size w5 T5.out.1 (fun w' f => ra3.out.keep' (T5.out.2.1.trans (f.below (by have := T5.out.2.2; omega) (by rintro j (h | h); omega; cases h))))).mono ?_; rintro e w6 ⟨rfl, h6⟩; clear C9; replace h6 := hide h6)
      obtain ⟨r6, t6, f6, x6⟩ := h6.out
      have b36 : Below w3.heap.size w3 w6 := T5.out.2.1.trans (f6.below (by have := T5.out.2.2; omega) (by rintro j (h | h); omega; cases h))
      have ra6 := hide (ra3.out.keep' b36)
      have rb6 := hide (rb3.out.keep' b36)
      have B6 := hide (B3.out.trans (b36.mono B3.out.size))
      have T6 := hide t6
      clear h6 t6 f6 x6 b36 T5 B3 ra3 rb3
      go_upto_region 10 with first | (go_at_call 10; refine (lays_any _).mono ?_; rintro e w7 ⟨rfl, b67⟩; have ra7 := hide (ra6.out.keep' b67); have rb7 := hide (rb6.out.keep' b67); have B7 := hide (B6.out.trans (b67.mono B6.out.size)); have T7 := hide (T6.out.below b67); clear b67 ra6 rb6 B6 T6) | (go_at_call 11; refine (C11 w7 ra7.out).mono ?_; rintro e w' ⟨h, rfl⟩; obtain rfl := h.symm; clear C11) | (go_at_call 12; refine (rsame_any zs zs a1 a2 c1 c2 w7 ra7.out rb7.out (by omega) (by omega)).mono ?_; rintro e w8 ⟨⟨j8, g8⟩, rfl⟩; have b78 : Below w7.heap.size w7 w8 := (by rw [g8]; exact below_drewN' _ _ _); have ra8 := hide (ra7.out.keep' b78); have B8 := hide (B7.out.trans (b78.mono B7.out.size)); have T8 := hide (T7.out.below b78); clear g8 b78 ra7 rb7 B7 T7; rw [show sameL zs zs = true from decide_eq_true rfl])
      go_upto_region 11 with (go_at_call 17; refine (C17 w8 ra8.out).mono ?_; rintro e w9 ⟨a9, c9, rfl, bk9, hn9, b89⟩; have ra9 := hide (ra8.out.keep' b89); have B9 := hide (B8.out.trans (b89.mono B8.out.size)); have T9 := hide (T8.out.below b89); have K9 := hide (And.intro bk9 hn9); clear C17 bk9 hn9 b89 ra8 B8 T8)
      go_upto_region 12 with (go_at_call 18; refine (read_any a9 c9 PW w9 (K9.out.1 w9 (Fr.refl _ _)).bs (by have := hPL.out; omega)).mono ?_; rintro e w10 ⟨rfl, h10⟩; have b910 : Below w9.heap.size w9 w10 := (by rw [h10]; exact (below_new).alloc (by simp) _); have D10 := hide (show Rdr w10 (w9.heap.size + 1) w9.heap.size PW 0 PW.length by rw [h10]; exact rdr_new PW w9 (by have := hPL.out; omega)); have B10 := hide b910; clear h10 b910)
      go_upto_region 13 with (go_at_call 19; refine (C19 (w9.heap.size + 1) w9.heap.size PW.length w10 D10.out (by simp [leftOf])).mono ?_; rintro e w11 ⟨a11, c11, rfl, z1, z2, z3, z4, z5⟩; have f11 := hide (show Below w9.heap.size w9 w11 from B10.out.trans (z5.below B10.out.size (by rintro j rfl; omega))); replace z3 := hide z3; replace z4 := hide z4; clear C19 z1 z2 z5)
      have T11 := T9.out.below f11.out
      have ra11 := hide (ra9.out.keep' f11.out)
      have B11 := hide (B9.out.trans (f11.out.mono B9.out.size))
      have BC1 : Calls Tryd.prog 14 #[.pointer (some ⟨w3.heap.size, 0, none⟩)] w11.drew fun e w' => e = .returned (.slice (some ⟨w11.heap.size, 0, none⟩) PW.length PW.length) ∧ w' = (w11.alloc (rowObj PW)).drew :=
        bytes_any w3.heap.size r6 PW w11.drew (T11.below (Below.refl _ _).drew) (by have := hPL.out; omega)
      have BA : Below w11.heap.size w11 ((w11.alloc (rowObj PW)).drew) := (below_new).drew
      have s1 : (convert 33 9 (.slice (some ⟨w11.heap.size, 0, none⟩) PW.length PW.length)).run Tryd.prog ((w11.alloc (rowObj PW)).drew) = .ok (.string ⟨PW.toArray⟩) ((w11.alloc (rowObj PW)).drew) :=
        conv_str PW (some ⟨w11.heap.size, 0, none⟩) PW.length _ (rowObj_row (heap_alloc_new w11 _)) (fun h => by cases h)
      have s2 : (convert 33 9 (.slice a9 PW.length c9)).run Tryd.prog w11.drew = .ok (.string ⟨PW.toArray⟩) w11.drew := conv_str PW a9 c9 w11.drew (K9.out.1 _ (Fr.ofBelow f11.out).drew) K9.out.2
      have s3 : (convert 33 9 (.slice a9 PW.length c9)).run Tryd.prog ((w11.alloc (rowObj PW)).drew) = .ok (.string ⟨PW.toArray⟩) ((w11.alloc (rowObj PW)).drew) := conv_str PW a9 c9 _ (K9.out.1 _ ((Fr.ofBelow f11.out).trans (Fr.ofBelow BA))) K9.out.2
      have s0 : (convert 33 9 (.slice a9 PW.length c9)).run Tryd.prog w11 = .ok (.string ⟨PW.toArray⟩) w11 := conv_str PW a9 c9 w11 (K9.out.1 _ (Fr.ofBelow f11.out)) K9.out.2
      have HS := hide (show ∀ W, Below w11.heap.size w11 W → (convert 33 9 (.slice a9 PW.length c9)).run Tryd.prog W = .ok (.string ⟨PW.toArray⟩) W from fun W hW => conv_str PW a9 c9 W (K9.out.1 _ ((Fr.ofBelow f11.out).trans (Fr.ofBelow hW))) K9.out.2)
      have CC15 := C15 ((w11.alloc (rowObj PW)).drew) (ra11.out.keep' BA)
      have HBA := hide BA
      clear BA T11 T9 ra9 B9 B10 C15 D10 K9
      have hwy : ((wy : Int) == (wy : Int)) = true := beq_self_eq_true _
      clear hc hcl hcl2 hcc2 hcl3 HGL
      refine wp_region_held_drew (S := (fun W => (convert 33 9 (.slice a9 PW.length c9)).run Tryd.prog W = .ok (.string ⟨PW.toArray⟩) W)) (by kernel_rfl) s2 (fun hH0 => ?_)
      refine wpAnyH_take (i := 0) (oi := ({ dst := some 89, op := Op.move (Operand.tmp 7), type := 24, pos := "law.go:51", after := #[], guard := none } : Oper)) (v := ?_) rfl (by kernel_rfl) (by kernel_rfl) (by kernel_rfl) (fun _ _ _ h => h) (Or.inl ⟨by rfl, ?_⟩) (by assumption) ?_
      rotate_left
      · (intro wz hSw; (try dsimp only at hSw); go_simp; try with_reducible rfl)
      simp only [Act.put, List.setIfInBounds_toArray, List.set_cons_zero, List.set_cons_succ]
      refine wpAnyH_take (i := 3) (oi := ({ dst := some 92, op := Op.move (Operand.tmp 9), type := 33, pos := "law.go:51", after := #[], guard := none } : Oper)) (v := ?_) rfl (by kernel_rfl) (by kernel_rfl) (by kernel_rfl) (fun _ _ _ h => h) (Or.inl ⟨by rfl, ?_⟩) (by assumption) ?_
      rotate_left
      · (intro wz hSw; (try dsimp only at hSw); go_simp; try with_reducible rfl)
      simp only [Act.put, List.setIfInBounds_toArray, List.set_cons_zero, List.set_cons_succ]
      refine wpAnyH_take (i := 4) (oi := ({ dst := some 93, op := Op.convert 33 9 (Operand.tmp 92), type := 9, pos := "law.go:51", after := #[{ on := 3, ground := Ground.data }], guard := none } : Oper)) (v := ?_) rfl (by kernel_rfl) (by kernel_rfl) (by kernel_rfl) (fun _ _ _ h => h) (Or.inl ⟨by rfl, ?_⟩) (by assumption) ?_
      rotate_left
      · (intro wz hSw; (try dsimp only at hSw); go_simp; try with_reducible rfl)
      simp only [Act.put, List.setIfInBounds_toArray, List.set_cons_zero, List.set_cons_succ]
      refine wpAnyH_ready (rs := [1]) (by kernel_rfl) (by simp) ?_
      refine AllReadyH.cons (o := ({ dst := some 90, op := Op.call { callee := Callee.value (Operand.func 14), args := #[Operand.tmp 89], argTypes := #[24] }, type := 33, pos := "law.go:51", after := #[{ on := 0, ground := Ground.data }], guard := none } : Oper)) rfl (fun K hK => ?_) AllReadyH.nil
      go_simp
      go_at_call 14
      refine BC1.mono ?_
      rintro e w' ⟨rfl, rfl⟩
      (try dsimp only)
      refine hK.out _ _ s3 (fun hH1 => ?_)
      clear hK K hH0
      (try simp only [Act.put, List.setIfInBounds_toArray, List.set_cons_zero, List.set_cons_succ])
      refine wpAnyH_ready (rs := [2]) (by kernel_rfl) (by simp) ?_
      refine AllReadyH.cons (o := ({ dst := some 91, op := Op.convert 33 9 (Operand.tmp 90), type := 9, pos := "law.go:51", after := #[{ on := 1, ground := Ground.data }], guard := none } : Oper)) rfl (fun K hK => ?_) AllReadyH.nil
      go_simp
      (try dsimp only)
      refine hK.out _ _ s3 (fun hH2 => ?_)
      clear hK K hH1
      (try simp only [Act.put, List.setIfInBounds_toArray, List.set_cons_zero, List.set_cons_succ])
      refine wpAnyH_take (i := 5) (oi := ({ dst := some 94, op := Op.binOp BinOp.eql 9 (Operand.tmp 91) (Operand.tmp 93) 9, type := 4, pos := "law.go:51", after := #[{ on := 2, ground := Ground.data }, { on := 4, ground := Ground.data }], guard := none } : Oper)) (v := ?_) rfl (by kernel_rfl) (by kernel_rfl) (by kernel_rfl) (fun _ _ _ h => h) (Or.inl ⟨by rfl, ?_⟩) (by assumption) ?_
      rotate_left
      · (intro wz hSw; (try dsimp only at hSw); go_simp; try with_reducible rfl)
      simp only [Act.put, List.setIfInBounds_toArray, List.set_cons_zero, List.set_cons_succ]
      refine wpAnyH_take (i := 6) (oi := ({ dst := some 95, op := Op.move (Operand.tmp 94), type := 4, pos := "law.go:51", after := #[{ on := 5, ground := Ground.data }, { on := 1, ground := Ground.chain }], guard := none } : Oper)) (v := ?_) rfl (by kernel_rfl) (by kernel_rfl) (by kernel_rfl) (fun _ _ _ h => h) (Or.inl ⟨by rfl, ?_⟩) (by assumption) ?_
      rotate_left
      · (intro wz hSw; (try dsimp only at hSw); go_simp; try with_reducible rfl)
      simp only [Act.put, List.setIfInBounds_toArray, List.set_cons_zero, List.set_cons_succ]
      refine wpAnyH_take (i := 7) (oi := ({ dst := some 96, op := Op.move (Operand.tmp 0), type := 3, pos := "law.go:51", after := #[{ on := 6, ground := Ground.guard }], guard := some (6, true) } : Oper)) (v := ?_) rfl (by kernel_rfl) (by kernel_rfl) (by kernel_rfl) (fun _ _ _ h => h) (Or.inl ⟨by rfl, ?_⟩) (by assumption) ?_
      rotate_left
      · (intro wz hSw; (try dsimp only at hSw); go_simp; try with_reducible rfl)
      simp only [Act.put, List.setIfInBounds_toArray, List.set_cons_zero, List.set_cons_succ]
      refine wpAnyH_take (i := 8) (oi := ({ dst := some 97, op := Op.move (Operand.tmp 1), type := 22, pos := "law.go:51", after := #[{ on := 6, ground := Ground.guard }], guard := some (6, true) } : Oper)) (v := ?_) rfl (by kernel_rfl) (by kernel_rfl) (by kernel_rfl) (fun _ _ _ h => h) (Or.inl ⟨by rfl, ?_⟩) (by assumption) ?_
      rotate_left
      · (intro wz hSw; (try dsimp only at hSw); go_simp; try with_reducible rfl)
      simp only [Act.put, List.setIfInBounds_toArray, List.set_cons_zero, List.set_cons_succ]
      refine wpAnyH_take (i := 10) (oi := ({ dst := some 99, op := Op.move (Operand.tmp 10), type := 3, pos := "law.go:51", after := #[{ on := 6, ground := Ground.guard }], guard := some (6, true) } : Oper)) (v := ?_) rfl (by kernel_rfl) (by kernel_rfl) (by kernel_rfl) (fun _ _ _ h => h) (Or.inl ⟨by rfl, ?_⟩) (by assumption) ?_
      rotate_left
      · (intro wz hSw; (try dsimp only at hSw); go_simp; try with_reducible rfl)
      simp only [Act.put, List.setIfInBounds_toArray, List.set_cons_zero, List.set_cons_succ]
      refine wpAnyH_ready (rs := [9]) (by kernel_rfl) (by simp) ?_
      refine AllReadyH.cons (o := ({ dst := some 98, op := Op.call { callee := Callee.value (Operand.func 15), args := #[Operand.tmp 96, Operand.tmp 97], argTypes := #[3, 22] }, type := 3, pos := "law.go:51", after := #[{ on := 7, ground := Ground.data }, { on := 8, ground := Ground.data }, { on := 6, ground := Ground.chain }, { on := 6, ground := Ground.guard }], guard := some (6, true) } : Oper)) rfl (fun K hK => ?_) AllReadyH.nil
      go_simp
      go_at_call 15
      refine CC15.mono ?_
      rintro e w12 ⟨b12, rfl⟩
      have B12 := hide (HBA.out.trans (b12.mono HBA.out.size))
      have s12 := HS.out w12 B12.out
      have CC12 := rsame_any zs zs a11 a1 c11 c1 w12 (z3.out w12 ((Fr.ofBelow B12.out).mono (fun _ _ h => h))) (ra11.out.keep' B12.out) (by omega) (by omega)
      clear b12
      (try dsimp only)
      refine hK.out _ _ s12 (fun hH3 => ?_)
      clear hK K hH2
      (try simp only [Act.put, List.setIfInBounds_toArray, List.set_cons_zero, List.set_cons_succ])
      refine wpAnyH_take (i := 11) (oi := ({ dst := some 100, op := Op.binOp BinOp.eql 3 (Operand.tmp 98) (Operand.tmp 99) 3, type := 4, pos := "law.go:51", after := #[{ on := 9, ground := Ground.data }, { on := 10, ground := Ground.data }, { on := 6, ground := Ground.guard }], guard := some (6, true) } : Oper)) (v := ?_) rfl (by kernel_rfl) (by kernel_rfl) (by kernel_rfl) (fun _ _ _ h => h) (Or.inl ⟨by rfl, ?_⟩) (by assumption) ?_
      rotate_left
      · (intro wz hSw; (try dsimp only at hSw); go_simp; try with_reducible rfl)
      simp only [Act.put, List.setIfInBounds_toArray, List.set_cons_zero, List.set_cons_succ]
      refine wpAnyH_take (i := 12) (oi := ({ dst := some 101, op := Op.pick (Operand.tmp 95) (Operand.tmp 100) (Operand.const (Value.bool false)), type := 4, pos := "law.go:51", after := #[{ on := 6, ground := Ground.data }, { on := 11, ground := Ground.data }], guard := none } : Oper)) (v := ?_) rfl (by kernel_rfl) (by kernel_rfl) (by kernel_rfl) (fun _ _ _ h => h) (Or.inl ⟨by rfl, ?_⟩) (by assumption) ?_
      rotate_left
      · (intro wz hSw; (try dsimp only at hSw); go_simp; try with_reducible rfl)
      simp only [Act.put, List.setIfInBounds_toArray, List.set_cons_zero, List.set_cons_succ]
      refine wpAnyH_take (i := 13) (oi := ({ dst := some 102, op := Op.move (Operand.tmp 101), type := 4, pos := "law.go:51", after := #[{ on := 12, ground := Ground.data }, { on := 9, ground := Ground.chain }], guard := none } : Oper)) (v := ?_) rfl (by kernel_rfl) (by kernel_rfl) (by kernel_rfl) (fun _ _ _ h => h) (Or.inl ⟨by rfl, ?_⟩) (by assumption) ?_
      rotate_left
      · (intro wz hSw; (try dsimp only at hSw); go_simp; try with_reducible rfl)
      simp only [Act.put, List.setIfInBounds_toArray, List.set_cons_zero, List.set_cons_succ]
      refine wpAnyH_take (i := 14) (oi := ({ dst := some 103, op := Op.move (Operand.tmp 13), type := 27, pos := "law.go:51", after := #[{ on := 13, ground := Ground.guard }], guard := some (13, true) } : Oper)) (v := ?_) rfl (by kernel_rfl) (by kernel_rfl) (by kernel_rfl) (fun _ _ _ h => h) (Or.inl ⟨by rfl, ?_⟩) (by assumption) ?_
      rotate_left
      · (intro wz hSw; (try dsimp only at hSw); go_simp; try with_reducible rfl)
      simp only [Act.put, List.setIfInBounds_toArray, List.set_cons_zero, List.set_cons_succ]
      refine wpAnyH_take (i := 15) (oi := ({ dst := some 104, op := Op.binOp BinOp.eql 27 (Operand.tmp 103) (Operand.const Value.nilIface) 27, type := 4, pos := "law.go:51", after := #[{ on := 14, ground := Ground.data }, { on := 13, ground := Ground.guard }], guard := some (13, true) } : Oper)) (v := ?_) rfl (by kernel_rfl) (by kernel_rfl) (by kernel_rfl) (fun _ _ _ h => h) (Or.inl ⟨by rfl, ?_⟩) (by assumption) ?_
      rotate_left
      · (intro wz hSw; (try dsimp only at hSw); go_simp; try with_reducible rfl)
      simp only [Act.put, List.setIfInBounds_toArray, List.set_cons_zero, List.set_cons_succ]
      refine wpAnyH_take (i := 16) (oi := ({ dst := some 105, op := Op.pick (Operand.tmp 102) (Operand.tmp 104) (Operand.const (Value.bool false)), type := 4, pos := "law.go:51", after := #[{ on := 13, ground := Ground.data }, { on := 15, ground := Ground.data }], guard := none } : Oper)) (v := ?_) rfl (by kernel_rfl) (by kernel_rfl) (by kernel_rfl) (fun _ _ _ h => h) (Or.inl ⟨by rfl, ?_⟩) (by assumption) ?_
      rotate_left
      · (intro wz hSw; (try dsimp only at hSw); go_simp; try with_reducible rfl)
      simp only [Act.put, List.setIfInBounds_toArray, List.set_cons_zero, List.set_cons_succ]
      refine wpAnyH_take (i := 17) (oi := ({ dst := some 106, op := Op.move (Operand.tmp 105), type := 4, pos := "law.go:51", after := #[{ on := 16, ground := Ground.data }, { on := 13, ground := Ground.chain }], guard := none } : Oper)) (v := ?_) rfl (by kernel_rfl) (by kernel_rfl) (by kernel_rfl) (fun _ _ _ h => h) (Or.inl ⟨by rfl, ?_⟩) (by assumption) ?_
      rotate_left
      · (intro wz hSw; (try dsimp only at hSw); go_simp; try with_reducible rfl)
      simp only [Act.put, List.setIfInBounds_toArray, List.set_cons_zero, List.set_cons_succ]
      refine wpAnyH_take (i := 18) (oi := ({ dst := some 107, op := Op.move (Operand.tmp 12), type := 22, pos := "law.go:51", after := #[{ on := 17, ground := Ground.guard }], guard := some (17, true) } : Oper)) (v := ?_) rfl (by kernel_rfl) (by kernel_rfl) (by kernel_rfl) (fun _ _ _ h => h) (Or.inl ⟨by rfl, ?_⟩) (by assumption) ?_
      rotate_left
      · (intro wz hSw; (try dsimp only at hSw); go_simp; try with_reducible rfl)
      simp only [Act.put, List.setIfInBounds_toArray, List.set_cons_zero, List.set_cons_succ]
      refine wpAnyH_take (i := 19) (oi := ({ dst := some 108, op := Op.move (Operand.tmp 1), type := 22, pos := "law.go:51", after := #[{ on := 17, ground := Ground.guard }], guard := some (17, true) } : Oper)) (v := ?_) rfl (by kernel_rfl) (by kernel_rfl) (by kernel_rfl) (fun _ _ _ h => h) (Or.inl ⟨by rfl, ?_⟩) (by assumption) ?_
      rotate_left
      · (intro wz hSw; (try dsimp only at hSw); go_simp; try with_reducible rfl)
      simp only [Act.put, List.setIfInBounds_toArray, List.set_cons_zero, List.set_cons_succ]
      refine wpAnyH_ready (rs := [20]) (by kernel_rfl) (by simp) ?_
      refine AllReadyH.cons (o := ({ dst := some 109, op := Op.call { callee := Callee.value (Operand.func 12), args := #[Operand.tmp 107, Operand.tmp 108], argTypes := #[22, 22] }, type := 4, pos := "law.go:51", after := #[{ on := 18, ground := Ground.data }, { on := 19, ground := Ground.data }, { on := 17, ground := Ground.chain }, { on := 17, ground := Ground.guard }], guard := some (17, true) } : Oper)) rfl (fun K hK => ?_) AllReadyH.nil
      go_simp
      go_at_call 12
      refine CC12.mono ?_
      rintro e w13 ⟨⟨j13, g13⟩, rfl⟩
      have B13 := hide (show Below w11.heap.size w11 w13 by rw [g13]; exact below_drewN B12.out j13)
      have s13 := HS.out w13 B13.out
      have CC20 := left_any (w9.heap.size + 1) w9.heap.size PW PW.length PW.length w13 (z4.out.keep (Fr.ofBelow (S := fun _ => False) B13.out) (fun h => h) (fun h => h))
      clear g13 CC12
      rw [show sameL zs zs = true from decide_eq_true rfl]
      (try dsimp only)
      refine hK.out _ _ s13 (fun hH4 => ?_)
      clear hK K hH3
      (try simp only [Act.put, List.setIfInBounds_toArray, List.set_cons_zero, List.set_cons_succ])
      refine wpAnyH_take (i := 21) (oi := ({ dst := some 110, op := Op.pick (Operand.tmp 106) (Operand.tmp 109) (Operand.const (Value.bool false)), type := 4, pos := "law.go:51", after := #[{ on := 17, ground := Ground.data }, { on := 20, ground := Ground.data }], guard := none } : Oper)) (v := ?_) rfl (by kernel_rfl) (by kernel_rfl) (by kernel_rfl) (fun _ _ _ h => h) (Or.inl ⟨by rfl, ?_⟩) (by assumption) ?_
      rotate_left
      · (intro wz hSw; (try dsimp only at hSw); go_simp; try with_reducible rfl)
      simp only [Act.put, List.setIfInBounds_toArray, List.set_cons_zero, List.set_cons_succ]
      refine wpAnyH_take (i := 22) (oi := ({ dst := some 111, op := Op.move (Operand.tmp 110), type := 4, pos := "law.go:51", after := #[{ on := 21, ground := Ground.data }, { on := 20, ground := Ground.chain }], guard := none } : Oper)) (v := ?_) rfl (by kernel_rfl) (by kernel_rfl) (by kernel_rfl) (fun _ _ _ h => h) (Or.inl ⟨by rfl, ?_⟩) (by assumption) ?_
      rotate_left
      · (intro wz hSw; (try dsimp only at hSw); go_simp; try with_reducible rfl)
      simp only [Act.put, List.setIfInBounds_toArray, List.set_cons_zero, List.set_cons_succ]
      refine wpAnyH_take (i := 23) (oi := ({ dst := some 112, op := Op.move (Operand.tmp 11), type := 39, pos := "law.go:51", after := #[{ on := 22, ground := Ground.guard }], guard := some (22, true) } : Oper)) (v := ?_) rfl (by kernel_rfl) (by kernel_rfl) (by kernel_rfl) (fun _ _ _ h => h) (Or.inl ⟨by rfl, ?_⟩) (by assumption) ?_
      rotate_left
      · (intro wz hSw; (try dsimp only at hSw); go_simp; try with_reducible rfl)
      simp only [Act.put, List.setIfInBounds_toArray, List.set_cons_zero, List.set_cons_succ]
      refine wpAnyH_ready (rs := [24]) (by kernel_rfl) (by simp) ?_
      refine AllReadyH.cons (o := ({ dst := some 113, op := Op.call { callee := Callee.value (Operand.func 20), args := #[Operand.tmp 112], argTypes := #[39] }, type := 3, pos := "law.go:51", after := #[{ on := 23, ground := Ground.data }, { on := 22, ground := Ground.chain }, { on := 22, ground := Ground.guard }], guard := some (22, true) } : Oper)) rfl (fun K hK => ?_) AllReadyH.nil
      go_simp
      go_at_call 20
      refine CC20.mono ?_
      rintro e w14 ⟨rfl, j14, g14⟩
      have B14 := hide (show Below w11.heap.size w11 w14 by rw [g14]; exact below_drewN B13.out j14)
      have s14 := HS.out w14 B14.out
      clear g14 CC20
      (try dsimp only)
      refine hK.out _ _ s14 (fun hH5 => ?_)
      clear hK K hH4
      (try simp only [Act.put, List.setIfInBounds_toArray, List.set_cons_zero, List.set_cons_succ])
      refine wpAnyH_take (i := 25) (oi := ({ dst := some 114, op := Op.binOp BinOp.eql 3 (Operand.tmp 113) (Operand.const (Value.int IntKind.i64 0)) 3, type := 4, pos := "law.go:51", after := #[{ on := 24, ground := Ground.data }, { on := 22, ground := Ground.guard }], guard := some (22, true) } : Oper)) (v := ?_) rfl (by kernel_rfl) (by kernel_rfl) (by kernel_rfl) (fun _ _ _ h => h) (Or.inl ⟨by rfl, ?_⟩) (by assumption) ?_
      rotate_left
      · (intro wz hSw; (try dsimp only at hSw); go_simp; try with_reducible rfl)
      simp only [Act.put, List.setIfInBounds_toArray, List.set_cons_zero, List.set_cons_succ]
      refine wpAnyH_take (i := 26) (oi := ({ dst := some 115, op := Op.pick (Operand.tmp 111) (Operand.tmp 114) (Operand.const (Value.bool false)), type := 4, pos := "law.go:51", after := #[{ on := 22, ground := Ground.data }, { on := 25, ground := Ground.data }], guard := none } : Oper)) (v := ?_) rfl (by kernel_rfl) (by kernel_rfl) (by kernel_rfl) (fun _ _ _ h => h) (Or.inl ⟨by rfl, ?_⟩) (by assumption) ?_
      rotate_left
      · (intro wz hSw; (try dsimp only at hSw); go_simp; try with_reducible rfl)
      simp only [Act.put, List.setIfInBounds_toArray, List.set_cons_zero, List.set_cons_succ]
      refine wpAnyH_take (i := 27) (oi := ({ dst := some 4, op := Op.assign (Operand.tmp 115), type := 4, pos := "law.go:51", after := #[{ on := 26, ground := Ground.data }, { on := 24, ground := Ground.chain }, { on := 0, ground := Ground.phase }, { on := 1, ground := Ground.phase }, { on := 2, ground := Ground.phase }, { on := 3, ground := Ground.phase }, { on := 4, ground := Ground.phase }, { on := 5, ground := Ground.phase }, { on := 6, ground := Ground.phase }, { on := 7, ground := Ground.phase }, { on := 8, ground := Ground.phase }, { on := 9, ground := Ground.phase }, { on := 10, ground := Ground.phase }, { on := 11, ground := Ground.phase }, { on := 12, ground := Ground.phase }, { on := 13, ground := Ground.phase }, { on := 14, ground := Ground.phase }, { on := 15, ground := Ground.phase }, { on := 16, ground := Ground.phase }, { on := 17, ground := Ground.phase }, { on := 18, ground := Ground.phase }, { on := 19, ground := Ground.phase }, { on := 20, ground := Ground.phase }, { on := 21, ground := Ground.phase }, { on := 22, ground := Ground.phase }, { on := 23, ground := Ground.phase }, { on := 24, ground := Ground.phase }, { on := 25, ground := Ground.phase }, { on := 26, ground := Ground.phase }], guard := none } : Oper)) (v := ?_) rfl (by kernel_rfl) (by kernel_rfl) (by kernel_rfl) (fun _ _ _ h => h) (Or.inl ⟨by rfl, ?_⟩) (by assumption) ?_
      rotate_left
      · (intro wz hSw; (try dsimp only at hSw); go_simp; try with_reducible rfl)
      simp only [Act.put, List.setIfInBounds_toArray, List.set_cons_zero, List.set_cons_succ]
      refine wpAnyH_done (by kernel_rfl) ?_ _
      go_wp2
      go_ret
      exact ⟨by simp, B11.out.trans (B14.out.mono B11.out.size)⟩
    | false =>
      rw [hR] at C7
      have C11 := fun w7 h => right_any n zs a1 c1 w7 h (by omega)
      rw [hR] at C11
      have C9 := fun g w4 h => write_no g n zs a1 c1 w4 h (by omega) hR
      have C15 := fun w4 h => way_no n zs a1 c1 w4 h (by omega) hR
      have C16 := fun w4 h => size_no n 0 zs a1 c1 w4 h (by omega) hR
      clear hR
      go_upto_region 4 with (go_at_call 7; refine C7.mono ?_; rintro e w3 ⟨⟨j3, g3⟩, rfl⟩; have b23 : Below w2.heap.size w2 w3 := (by rw [g3]; exact below_drewN' _ _ _); have ra3 := hide (ra2.out.keep' b23); have rb3 := hide (rb2.out.keep' b23); have B3 := hide (B2.out.trans (b23.mono B2.out.size)); clear g3 b23 C7 ra2 rb2 B2)
      go_upto_region 5 with (go_at_call 8; refine (new_any _).mono ?_; rintro e w5 ⟨rfl, h5⟩; replace h5 := hide h5)
      have b35 : Below w3.heap.size w3 w5 := by rw [h5.out]; exact below_new
      have T5 := hide (show Wtr w5 w3.heap.size none [] by rw [h5.out]; exact wtr_new w3)
      have ra5 := hide (ra3.out.keep' b35)
      have rb5 := hide (rb3.out.keep' b35)
      have B5 := hide (B3.out.trans (b35.mono B3.out.size))
      clear h5 b35 ra3 rb3 B3
      go_upto_region 6 with (go_at_call 9; refine (C9 w3.heap.size w5 ra5.out).mono ?_; rintro e w6 ⟨h6, rfl⟩; obtain rfl := h6.symm; clear C9)
      go_upto_region 9 with first | (go_at_call 10; refine (lays_any _).mono ?_; rintro e w7 ⟨rfl, b67⟩; have ra7 := hide (ra5.out.keep' b67); have rb7 := hide (rb5.out.keep' b67); have B7 := hide (B5.out.trans (b67.mono B5.out.size)); have T7 := hide (T5.out.below b67); clear b67 ra5 rb5 B5 T5) | (go_at_call 11; refine (C11 w7 ra7.out).mono ?_; rintro e w' ⟨h, rfl⟩; obtain rfl := h.symm; clear C11) | (go_at_call 12; refine (rsame_any zs zs a1 a2 c1 c2 w7 ra7.out rb7.out (by omega) (by omega)).mono ?_; rintro e w8 ⟨⟨j8, g8⟩, rfl⟩; have b78 : Below w7.heap.size w7 w8 := (by rw [g8]; exact below_drewN' _ _ _); have ra8 := hide (ra7.out.keep' b78); have B8 := hide (B7.out.trans (b78.mono B7.out.size)); have T8 := hide (T7.out.below b78); clear g8 b78 ra7 rb7 B7 T7; rw [show sameL zs zs = true from decide_eq_true rfl])
      have G8 : Glob w8 := (B8.out.cell (p := ⟨0, 0, none⟩) HGL.out.lt).trans HGL.out
      have C13 := fis_any [] (.iface 32 (.int .i64 1)) 1 1 w8 G8 rfl (by omega)
      clear G8
      go_wp2_with first | (go_at_call 13; refine C13.mono ?_; rintro e w9 ⟨rfl, f9⟩; have b89 := f9.below (Nat.le_refl _) (fun _ h => h.elim); have ra9 := hide (ra8.out.keep' b89); have B9 := hide (B8.out.trans (b89.mono B8.out.size)); have C14 := bytes_any w3.heap.size none [] w9 (T8.out.below b89) (by simp); clear C13 f9 b89 ra8 B8 T8) | (go_at_call 14; refine C14.mono ?_; rintro e w10 ⟨rfl, h10⟩; have b910 : Below w9.heap.size w9 w10 := (by rw [h10]; exact below_new); have ra10 := hide (ra9.out.keep' b910); have B10 := hide (B9.out.trans (b910.mono B9.out.size)); clear C14 h10 b910 ra9 B9) | (go_at_call 15; refine (C15 w10 ra10.out).mono ?_; rintro e w' ⟨h, rfl⟩; obtain rfl := h.symm; clear C15) | (go_at_call 16; refine (C16 w10 ra10.out).mono ?_; rintro e w' ⟨h, rfl⟩; obtain rfl := h.symm; clear C16)
      go_ret
      exact ⟨by simp, B10.out⟩
end Go.Proofs.YtidhcmhheohciaaDoor
