import Derived.Test.YtidhcmhheohciaaDoorG08
import Derived.Test.YtidhcmhheohciaaDoorG06
namespace Go.Proofs.YtidhcmhheohciaaDoor
open Go.RowKit
/-- bytes that a conversion reads, whatever comes -/
def SB (w : World) (b : Nat) (bs : List UInt8) : Prop := ∀ W : World, Below w.heap.size w W → (convert 33 9 (.slice (some ⟨b, 0, none⟩) bs.length bs.length)).run Tryd.prog W = .ok (.string ⟨bs.toArray⟩) W
theorem bytesK (g : Nat) (r : Option Nat) (bs : List UInt8) (w : World) (h : Wtr w g r bs) (hl : bs.length ≤ 1000000000) :
    Calls Tryd.prog 14 #[.pointer (some ⟨g, 0, none⟩)] w fun e w' => ∃ b, e = .returned (.slice (some ⟨b, 0, none⟩) bs.length bs.length) ∧ Below w.heap.size w w' ∧ SB w' b bs := by
  refine (bytes_any g r bs w h hl).mono ?_
  rintro e w' ⟨rfl, rfl⟩
  refine ⟨w.heap.size, rfl, below_new, fun W hW => conv_str bs _ _ W ((rowObj_row (heap_alloc_new w _)).keep (Fr.ofBelow (S := fun _ => False) hW) (fun _ _ h => h)) (fun h => by cases h)⟩
theorem Wtr.keepF {S : Nat → Prop} {w w' : World} {g : Nat} {r : Option Nat} {bs : List UInt8} (h : Wtr w g r bs) (f : Fr S w w') (hg : ¬ S g) (hr : ∀ k, r = some k → ¬ S k) : Wtr w' g r bs := by
  obtain ⟨v, h1, h2, h3, h4⟩ := h.is
  exact ⟨⟨v, f.heap h1 hg, h2, h3, ownsRow_heap h4 (fun k hk => f.block k (h4.lt k hk).2 (hr k (by rw [← h2]; exact hk)))⟩⟩
theorem kmod2 (n : Int) : ∃ k : Nat, 1 ≤ k ∧ k ≤ 200 ∧ wrap64 (1 + wrap64 ((IntKind.u64.wrap n).tmod 200)) = (k : Int) := by
  rw [IntKind.wrap_u64, Int.tmod_eq_emod_of_nonneg (by omega)]
  refine ⟨(n % 18446744073709551616 % 200).toNat + 1, by omega, by omega, ?_⟩
  unfold wrap64; omega
set_option maxRecDepth 100000 in
set_option maxHeartbeats 16000000 in
theorem once_walk (n : Int) (xs0 ys0 : List Int) (a b : Option Addr) (c d : Nat) (w : World) (hG : Glob w) (hr : Ri w a xs0) (hs : Ri w b ys0) (hc : xs0.length ≤ 17592186043904) (hd : ys0.length ≤ 17592186043904) :
    Calls Tryd.prog 6 #[.int .i64 n, .slice a xs0.length c, .slice b ys0.length d] w fun e w' => e = .returned (.bool true) ∧ Below w.heap.size w w' := by
  obtain ⟨k, hk1, hk2, hkm⟩ := kmod2 n
  have hk : k ≤ 4096 := by omega
  obtain ⟨xs, hRx, hsx⟩ := set_all k xs0 a c w hr hk (by omega)
  have HGL := hide hG
  have HS := hide hs
  have hxl := right_len hRx (by omega)
  clear hG hr hs
  go_enter Tryd.func6, Tryd.ntmps6
  go_upto_region 2 with fail
  rw [hkm]
  generalize wrap64 ((IntKind.u64.wrap n).tmod 200) = z0 at *
  generalize (IntKind.u64.wrap n).tmod 200 = z1 at *
  generalize IntKind.u64.wrap n = z2 at *
  clear hkm
  go_upto_region 3 with first | (go_at_call 21; refine hsx.mono ?_; rintro e w1 ⟨a1, c1, rfl, r1, kc1, n1, b1⟩; clear hsx; have RA1 := hide r1; have B1 := hide b1; replace kc1 := hide kc1; clear r1 n1 b1) | (go_at_call 21; obtain ⟨ys, hRy, hsy⟩ := set_all k ys0 b d w1 (HS.out.keep' B1.out) hk (by omega); refine hsy.mono ?_; rintro e w2 ⟨b2, d2, rfl, r2, kc2, n2, b12⟩; clear hsy; have RA2 := hide (RA1.out.keep' b12); have RB2 := hide r2; have B2 := hide (B1.out.trans (b12.mono B1.out.size)); replace kc2 := hide kc2; clear r2 n2 b12 RA1 B1)
  have hyl := right_len hRy (by omega)
  have N1 := new_any w2
  go_upto_region 4 with first | (go_at_call 8; refine N1.mono ?_; rintro e w3 ⟨rfl, h3⟩; clear N1; replace h3 := hide h3; have N2 := new_any w3) | (go_at_call 8; refine N2.mono ?_; rintro e w4 ⟨rfl, h4⟩; clear N2; replace h4 := hide h4)
  have T3 : Wtr w3 w2.heap.size none [] := by rw [h3.out]; exact wtr_new w2
  have b23 : Below w2.heap.size w2 w3 := by rw [h3.out]; exact below_new
  have z3 : w3.heap.size = w2.heap.size + 1 := by rw [h3.out]; simp
  have T4 : Wtr w4 w3.heap.size none [] := by rw [h4.out]; exact wtr_new w3
  have b34 : Below w3.heap.size w3 w4 := by rw [h4.out]; exact below_new
  have z4 : w4.heap.size = w3.heap.size + 1 := by rw [h4.out]; simp
  have b24 : Below w2.heap.size w2 w4 := b23.trans (b34.mono b23.size)
  have C9 := write_all w2.heap.size none [] k xs a1 c1 w4 (T3.below b34) (fun w' f => RA2.out.keep' (b24.trans (f.below (by omega) (by rintro j (h | h); omega; cases h)))) (by simp) hk kc1.out hRx
  have H4 := hide (And.intro T4 (And.intro b24 (And.intro z3 z4)))
  have lx := waySz_len hk hRx (wayOf k xs)
  have ly := waySz_len hk hRy (wayOf k ys)
  have lx2 := waySz_le hk hRx (wayOf k xs)
  have ly2 := waySz_le hk hRy (wayOf k ys)
  have HIN := hide (@wayB_inj k xs ys hk hRx hRy)
  simp only [List.nil_append] at C9
  have D9 := fun w5 h1 h2 => write_all w3.heap.size none [] k ys b2 d2 w5 h1 h2 (by simp) hk kc2.out hRy
  simp only [List.nil_append] at D9
  rw [← lx] at lx2
  rw [← ly] at ly2
  clear T3 b23 z3 T4 b34 z4 b24 h3 h4 lx ly
  generalize hPX : wayB k xs (wayOf k xs) = PX at *
  generalize hPY : wayB k ys (wayOf k ys) = PY at *
  have HPX := hide hPX
  have HPY := hide hPY
  clear hPX hPY
  go_upto_region 6 with first | (go_at_call 9; refine C9.mono ?_; rintro e w5 ⟨rfl, h5⟩; clear C9; obtain ⟨r5, t5, f5, x5⟩ := h5; have b25 : Below w2.heap.size w2 w5 := H4.out.2.1.trans (f5.below (by have := H4.out.2.2; omega) (by rintro j (h | h); omega; cases h)); have T5b : Wtr w5 w3.heap.size none [] := H4.out.1.keepF f5 (by have := H4.out.2.2; rintro (h | h); omega; cases h) (fun k h => by cases h); have D9 := D9 w5 T5b (fun w' f => RB2.out.keep' (b25.trans (f.below (by have := H4.out.2.2; have := H4.out.2.1.size; have := b25.size; omega) (by have := H4.out.2.2; rintro j (h | h); omega; cases h)))); have H5 := hide (And.intro t5 (And.intro x5 b25)); clear f5 t5 x5 b25 T5b) | (go_at_call 9; refine D9.mono ?_; rintro e w6 ⟨rfl, h6⟩; clear D9; replace h6 := hide h6)
  obtain ⟨r6, t6, f6, x6⟩ := h6.out
  have b26 : Below w2.heap.size w2 w6 := H5.out.2.2.trans (f6.below H5.out.2.2.size (by have := H4.out.2.2; rintro j (h | h); omega; cases h))
  have T6x := hide (H5.out.1.keepF f6 (by have := H4.out.2.2; rintro (h | h); omega; cases h) (fun j hj => by
    have h1 := H5.out.2.1
    have h2 := H4.out.2.2
    rintro (h | h)
    · rcases h1 with h1 | ⟨k2, h1, h3⟩
      · rw [h1] at hj; cases hj
      · rw [h1] at hj; cases hj; omega
    · cases h))
  have T6y := hide t6
  have RA6 := hide (RA2.out.keep' b26)
  have RB6 := hide (RB2.out.keep' b26)
  have B6 := hide (B2.out.trans (b26.mono B2.out.size))
  clear h6 t6 f6 x6 b26 H5 H4 RA2 RB2 B2
  have E0 := rplain_any k xs a1 c1 w6 RA6.out (by omega) hk hRx
  have E1 := fun w1 h => rgaps_any k xs a1 c1 w1 h hk hRx
  have E2 := fun w1 h => rruns_any k xs a1 c1 w1 h hk hRx
  go_upto_region 7 with first | (go_at_call 22; refine E0.mono ?_; rintro e w7 ⟨rfl, h1, b1⟩; clear E0; have H1 := hide (And.intro h1.bk b1); clear h1 b1) | (go_at_call 23; refine (E1 w7 (RA6.out.keep' H1.out.2)).mono ?_; rintro e w8 ⟨a8, c8, rfl, h2⟩; clear E1; have b2 := H1.out.2.trans ((h2.fr.below (Nat.le_refl _) (fun _ h => h.elim)).mono H1.out.2.size); have H2 := hide (And.intro (h2.bk.1.mono H1.out.2.size) (And.intro h2.bk.2 (And.intro b2 (H1.out.1.later (h2.fr.mono (fun _ _ h => h.elim)))))); clear h2 b2) | (go_at_call 24; refine (E2 w8 (RA6.out.keep' H2.out.2.2.1)).mono ?_; rintro e w9 ⟨a9, c9, rfl, h3⟩; clear E2; have b3 := H2.out.2.2.1.trans ((h3.fr.below (Nat.le_refl _) (fun _ h => h.elim)).mono H2.out.2.2.1.size); have H3 := hide (And.intro (h3.bk.1.mono H2.out.2.2.1.size) (And.intro h3.bk.2 (And.intro b3 (And.intro (H2.out.2.2.2.later (h3.fr.mono (fun _ _ h => h.elim))) (And.intro (H2.out.1.later (h3.fr.mono (fun _ _ h => h.elim))) H2.out.2.1))))); clear h3 b3)
  go_name_world W10 HW10
  have b910 : Below w9.heap.size w9 W10 := by rw [← HW10]; exact below_new
  have hrow : W10.heap[w9.heap.size]? = some (Obj.cells #[.slice (some ⟨w6.heap.size, 0, none⟩) (wayB k xs 0).length (wayB k xs 0).length, .slice a8 (wayB k xs 1).length c8, .slice a9 (wayB k xs 2).length c9] 33 (0, 0)) := by rw [← HW10]; exact heap_alloc_new w9 _
  have WAYS : Hid (∀ i, i ≤ 2 → ∃ ai ci, W10.cell? ⟨w9.heap.size, i, none⟩ = some (.slice ai (wayB k xs i).length ci) ∧ BK w6 W10 ai (wayB k xs i) ∧ (ai = none → ci = 0)) := fun i hi => by
    have F : Fr (fun k => k < w6.heap.size) w9 W10 := Fr.ofBelow b910
    match i, hi with
    | 0, _ => exact ⟨some ⟨w6.heap.size, 0, none⟩, (wayB k xs 0).length, by simp [World.cell?, hrow], H3.out.2.2.2.1.later F, fun h => by cases h⟩
    | 1, _ => exact ⟨a8, c8, by simp [World.cell?, hrow], H3.out.2.2.2.2.1.later F, H3.out.2.2.2.2.2⟩
    | 2, _ => exact ⟨a9, c9, by simp [World.cell?, hrow], H3.out.1.later F, H3.out.2.1⟩
  have b610 := H3.out.2.2.1.trans (b910.mono H3.out.2.2.1.size)
  have RA := hide (RA6.out.keep' b610)
  have RB := hide (RB6.out.keep' b610)
  have B10 := hide (B6.out.trans (b610.mono B6.out.size))
  have TX0 := hide (T6x.out.below b610)
  have TY0 := hide (T6y.out.below b610)
  clear HW10 b910 hrow b610 H3 H2 H1 RA6 RB6 B6 T6x T6y
  obtain ⟨A, hA⟩ : ∃ A, A = w2.heap.size := ⟨_, rfl⟩
  obtain ⟨B, hB⟩ : ∃ B, B = w3.heap.size := ⟨_, rfl⟩
  rw [← hA] at TX0 ⊢
  rw [← hB] at TY0 ⊢
  clear hA hB
  generalize w9.heap.size = NW at *
  have hwy := way_le k xs
  have HWL := hide (fun i => And.intro (waySz_len hk hRx i) (waySz_le hk hRx i))
  have HRX := hide hRx
  obtain ⟨wy, hwy2⟩ : ∃ wy, wy = wayOf k xs := ⟨_, rfl⟩
  rw [← hwy2] at hwy
  have HWY := hide hwy2
  clear hwy2
  go_wp2_with fail
  go_loopw [13, 14] (fun s13 s14 wr => ∃ i : Nat, s14 = .int .i64 i ∧ i ≤ 3 ∧ s13 = .int .i64 ((if wy < i then 1 else 0 : Nat) : Int) ∧ Hid (Below W10.heap.size W10 wr)) (fun _ s14 _ => 3 - (intOf s14).toNat)
  case atStart => exact ⟨0, rfl, by omega, by simp, Below.refl _ _⟩
  case round =>
    obtain ⟨i, rfl, hi, rfl, hb⟩ := hrel
    by_cases hi3 : i = 3
    · subst hi3
      rw [if_pos (by omega)]
      have RA2 := RA.out.keep' hb.out
      have RB2 := RB.out.keep' hb.out
      have TX2 := TX0.out.below hb.out
      have TY2 := TY0.out.below hb.out
      have BW := hide (B10.out.trans (hb.out.mono B10.out.size))
      clear RA RB TX0 TY0 WAYS HWL B10 hb
      have RA := hide RA2
      have RB := hide RB2
      have TX := hide TX2
      have TY := hide TY2
      clear RA2 RB2 TX2 TY2 hwy
      by_cases hxy : xs = ys
      · have HSAME : Hid (sameL xs ys = true) := decide_eq_true hxy
        have HPE : PY = PX := by have := HPY.out; rw [← hxy, HPX.out] at this; exact this.symm
        subst HPE
        clear hxy
        go_wp2_with fail
        refine wp_region_held_drew (S := fun W => Below wr.heap.size wr W) (by kernel_rfl) ((Below.refl _ _).drew) (fun hS0 => ?_)
        obtain ⟨w0, hw0⟩ : ∃ w0, w0 = wr.drew := ⟨_, rfl⟩
        rw [← hw0] at hS0 ⊢
        clear hw0
        have hH0 : Below wr.heap.size wr w0 := hS0
        refine wpAnyH_ready (rs := [0]) (by kernel_rfl) (by simp) ?_
        refine AllReadyH.cons (o := ({ dst := some 75, op := Op.call { callee := Callee.value (Operand.func 10), args := #[], argTypes := #[] }, type := 4, pos := "law.go:133", after := #[], guard := none } : Oper)) rfl (fun K hK => ?_) AllReadyH.nil
        · go_simp
          go_at_call 10
          refine (lays_any _).mono ?_
          rintro e w1 ⟨rfl, hb1⟩
          have hH1 : Below wr.heap.size wr w1 := hH0.trans (hb1.mono hH0.size)
          (try dsimp only)
          refine hK.out _ _ hH1 (fun hS1 => ?_)
          clear hK K hb1
          (try simp only [Act.put, List.setIfInBounds_toArray, List.set_cons_zero, List.set_cons_succ])
          refine wpAnyH_take (i := 1) (oi := ({ dst := some 76, op := Op.move (Operand.tmp 75), type := 4, pos := "law.go:133", after := #[{ on := 0, ground := Ground.data }, { on := 0, ground := Ground.chain }], guard := none } : Oper)) (v := ?_) rfl (by kernel_rfl) (by kernel_rfl) (by kernel_rfl) (fun _ _ _ h => h) (Or.inl ⟨by rfl, ?_⟩) (by assumption) ?_
          rotate_left
          · (intro wz hSw; (try dsimp only at hSw); go_simp; try with_reducible rfl)
          simp only [Act.put, List.setIfInBounds_toArray, List.set_cons_zero, List.set_cons_succ]
          refine wpAnyH_take (i := 2) (oi := ({ dst := some 77, op := Op.move (Operand.tmp 13), type := 3, pos := "law.go:133", after := #[{ on := 1, ground := Ground.guard }], guard := some (1, true) } : Oper)) (v := ?_) rfl (by kernel_rfl) (by kernel_rfl) (by kernel_rfl) (fun _ _ _ h => h) (Or.inl ⟨by rfl, ?_⟩) (by assumption) ?_
          rotate_left
          · (intro wz hSw; (try dsimp only at hSw); go_simp; try with_reducible rfl)
          simp only [Act.put, List.setIfInBounds_toArray, List.set_cons_zero, List.set_cons_succ]
          refine wpAnyH_take (i := 3) (oi := ({ dst := some 78, op := Op.binOp BinOp.eql 3 (Operand.tmp 77) (Operand.const (Value.int IntKind.i64 1)) 3, type := 4, pos := "law.go:133", after := #[{ on := 2, ground := Ground.data }, { on := 1, ground := Ground.guard }], guard := some (1, true) } : Oper)) (v := ?_) rfl (by kernel_rfl) (by kernel_rfl) (by kernel_rfl) (fun _ _ _ h => h) (Or.inl ⟨by rfl, ?_⟩) (by assumption) ?_
          rotate_left
          · (intro wz hSw; (try dsimp only at hSw); go_simp; try with_reducible rfl)
          simp only [Act.put, List.setIfInBounds_toArray, List.set_cons_zero, List.set_cons_succ]
          refine wpAnyH_take (i := 4) (oi := ({ dst := some 79, op := Op.pick (Operand.tmp 76) (Operand.tmp 78) (Operand.const (Value.bool false)), type := 4, pos := "law.go:133", after := #[{ on := 1, ground := Ground.data }, { on := 3, ground := Ground.data }], guard := none } : Oper)) (v := ?_) rfl (by kernel_rfl) (by kernel_rfl) (by kernel_rfl) (fun _ _ _ h => h) (Or.inl ⟨by rfl, ?_⟩) (by assumption) ?_
          rotate_left
          · (intro wz hSw; (try dsimp only at hSw); go_simp; try with_reducible rfl)
          simp only [Act.put, List.setIfInBounds_toArray, List.set_cons_zero, List.set_cons_succ]
          refine wpAnyH_take (i := 5) (oi := ({ dst := some 80, op := Op.move (Operand.tmp 79), type := 4, pos := "law.go:133", after := #[{ on := 4, ground := Ground.data }, { on := 1, ground := Ground.chain }], guard := none } : Oper)) (v := ?_) rfl (by kernel_rfl) (by kernel_rfl) (by kernel_rfl) (fun _ _ _ h => h) (Or.inl ⟨by rfl, ?_⟩) (by assumption) ?_
          rotate_left
          · (intro wz hSw; (try dsimp only at hSw); go_simp; try with_reducible rfl)
          simp only [Act.put, List.setIfInBounds_toArray, List.set_cons_zero, List.set_cons_succ]
          refine wpAnyH_take (i := 6) (oi := ({ dst := some 81, op := Op.move (Operand.tmp 10), type := 24, pos := "law.go:133", after := #[{ on := 5, ground := Ground.guard }], guard := some (5, true) } : Oper)) (v := ?_) rfl (by kernel_rfl) (by kernel_rfl) (by kernel_rfl) (fun _ _ _ h => h) (Or.inl ⟨by rfl, ?_⟩) (by assumption) ?_
          rotate_left
          · (intro wz hSw; (try dsimp only at hSw); go_simp; try with_reducible rfl)
          simp only [Act.put, List.setIfInBounds_toArray, List.set_cons_zero, List.set_cons_succ]
          refine wpAnyH_take (i := 9) (oi := ({ dst := some 84, op := Op.move (Operand.tmp 11), type := 24, pos := "law.go:133", after := #[{ on := 5, ground := Ground.guard }], guard := some (5, true) } : Oper)) (v := ?_) rfl (by kernel_rfl) (by kernel_rfl) (by kernel_rfl) (fun _ _ _ h => h) (Or.inl ⟨by rfl, ?_⟩) (by assumption) ?_
          rotate_left
          · (intro wz hSw; (try dsimp only at hSw); go_simp; try with_reducible rfl)
          simp only [Act.put, List.setIfInBounds_toArray, List.set_cons_zero, List.set_cons_succ]
          refine wpAnyH_take (i := 13) (oi := ({ dst := some 88, op := Op.move (Operand.tmp 8), type := 22, pos := "law.go:133", after := #[{ on := 5, ground := Ground.guard }], guard := some (5, true) } : Oper)) (v := ?_) rfl (by kernel_rfl) (by kernel_rfl) (by kernel_rfl) (fun _ _ _ h => h) (Or.inl ⟨by rfl, ?_⟩) (by assumption) ?_
          rotate_left
          · (intro wz hSw; (try dsimp only at hSw); go_simp; try with_reducible rfl)
          simp only [Act.put, List.setIfInBounds_toArray, List.set_cons_zero, List.set_cons_succ]
          refine wpAnyH_take (i := 14) (oi := ({ dst := some 89, op := Op.move (Operand.tmp 9), type := 22, pos := "law.go:133", after := #[{ on := 5, ground := Ground.guard }], guard := some (5, true) } : Oper)) (v := ?_) rfl (by kernel_rfl) (by kernel_rfl) (by kernel_rfl) (fun _ _ _ h => h) (Or.inl ⟨by rfl, ?_⟩) (by assumption) ?_
          rotate_left
          · (intro wz hSw; (try dsimp only at hSw); go_simp; try with_reducible rfl)
          simp only [Act.put, List.setIfInBounds_toArray, List.set_cons_zero, List.set_cons_succ]
          refine wpAnyH_ready (rs := [7]) (by kernel_rfl) (by simp) ?_
          refine AllReadyH.cons (o := ({ dst := some 82, op := Op.call { callee := Callee.value (Operand.func 14), args := #[Operand.tmp 81], argTypes := #[24] }, type := 33, pos := "law.go:133", after := #[{ on := 6, ground := Ground.data }, { on := 5, ground := Ground.chain }, { on := 5, ground := Ground.guard }], guard := some (5, true) } : Oper)) rfl (fun K hK => ?_) AllReadyH.nil
          · go_simp
            go_at_call 14
            refine (bytesK A r5 PY w1 (TX.out.below hH1) (by omega)).mono ?_
            rintro e w2 ⟨bv, rfl, hb2, sbv⟩
            have hH2 : Below wr.heap.size wr w2 := hH1.trans (hb2.mono hH1.size)
            have hv2 : Below w2.heap.size w2 w2 := Below.refl _ _
            (try dsimp only)
            refine hK.out _ _ hH2 (fun hS2 => ?_)
            clear hK K hb2
            (try simp only [Act.put, List.setIfInBounds_toArray, List.set_cons_zero, List.set_cons_succ])
            refine wpAnyH_ready (rs := [8, 10]) (by kernel_rfl) (by simp) ?_
            refine AllReadyH.cons (o := ({ dst := some 83, op := Op.convert 33 9 (Operand.tmp 82), type := 9, pos := "law.go:133", after := #[{ on := 7, ground := Ground.data }, { on := 5, ground := Ground.guard }], guard := some (5, true) } : Oper)) rfl (fun K hK => ?_) (AllReadyH.cons (o := ({ dst := some 85, op := Op.call { callee := Callee.value (Operand.func 14), args := #[Operand.tmp 84], argTypes := #[24] }, type := 33, pos := "law.go:133", after := #[{ on := 9, ground := Ground.data }, { on := 7, ground := Ground.chain }, { on := 5, ground := Ground.guard }], guard := some (5, true) } : Oper)) rfl (fun K hK => ?_) AllReadyH.nil)
            · have cvt := sbv _ hv2
              go_simp
              (try dsimp only)
              refine hK.out _ _ hH2 (fun hSc8 => ?_)
              clear hK K cvt
              (try simp only [Act.put, List.setIfInBounds_toArray, List.set_cons_zero, List.set_cons_succ])
              refine wpAnyH_ready (rs := [10]) (by kernel_rfl) (by simp) ?_
              refine AllReadyH.cons (o := ({ dst := some 85, op := Op.call { callee := Callee.value (Operand.func 14), args := #[Operand.tmp 84], argTypes := #[24] }, type := 33, pos := "law.go:133", after := #[{ on := 9, ground := Ground.data }, { on := 7, ground := Ground.chain }, { on := 5, ground := Ground.guard }], guard := some (5, true) } : Oper)) rfl (fun K hK => ?_) AllReadyH.nil
              · go_simp
                go_at_call 14
                refine (bytesK B r6 PY w2 (TY.out.below hH2) (by omega)).mono ?_
                rintro e w3 ⟨bw, rfl, hb3, sbw⟩
                have hH3 : Below wr.heap.size wr w3 := hH2.trans (hb3.mono hH2.size)
                have hv3 := hv2.trans (hb3.mono hv2.size)
                have hw3 : Below w3.heap.size w3 w3 := Below.refl _ _
                (try dsimp only)
                refine hK.out _ _ hH3 (fun hS3 => ?_)
                clear hK K hb3
                (try simp only [Act.put, List.setIfInBounds_toArray, List.set_cons_zero, List.set_cons_succ])
                refine wpAnyH_ready (rs := [11, 15]) (by kernel_rfl) (by simp) ?_
                refine AllReadyH.cons (o := ({ dst := some 86, op := Op.convert 33 9 (Operand.tmp 85), type := 9, pos := "law.go:133", after := #[{ on := 10, ground := Ground.data }, { on := 5, ground := Ground.guard }], guard := some (5, true) } : Oper)) rfl (fun K hK => ?_) (AllReadyH.cons (o := ({ dst := some 90, op := Op.call { callee := Callee.value (Operand.func 12), args := #[Operand.tmp 88, Operand.tmp 89], argTypes := #[22, 22] }, type := 4, pos := "law.go:133", after := #[{ on := 13, ground := Ground.data }, { on := 14, ground := Ground.data }, { on := 10, ground := Ground.chain }, { on := 5, ground := Ground.guard }], guard := some (5, true) } : Oper)) rfl (fun K hK => ?_) AllReadyH.nil)
                · have cvt := sbw _ hw3
                  go_simp
                  (try dsimp only)
                  refine hK.out _ _ hH3 (fun hSc11 => ?_)
                  clear hK K cvt
                  (try simp only [Act.put, List.setIfInBounds_toArray, List.set_cons_zero, List.set_cons_succ])
                  refine wpAnyH_take (i := 12) (oi := ({ dst := some 87, op := Op.binOp BinOp.eql 9 (Operand.tmp 83) (Operand.tmp 86) 9, type := 4, pos := "law.go:133", after := #[{ on := 8, ground := Ground.data }, { on := 11, ground := Ground.data }, { on := 5, ground := Ground.guard }], guard := some (5, true) } : Oper)) (v := ?_) rfl (by kernel_rfl) (by kernel_rfl) (by kernel_rfl) (fun _ _ _ h => h) (Or.inl ⟨by rfl, ?_⟩) (by assumption) ?_
                  rotate_left
                  · (intro wz hSw; (try dsimp only at hSw); go_simp; try with_reducible rfl)
                  simp only [Act.put, List.setIfInBounds_toArray, List.set_cons_zero, List.set_cons_succ]
                  refine wpAnyH_ready (rs := [15]) (by kernel_rfl) (by simp) ?_
                  refine AllReadyH.cons (o := ({ dst := some 90, op := Op.call { callee := Callee.value (Operand.func 12), args := #[Operand.tmp 88, Operand.tmp 89], argTypes := #[22, 22] }, type := 4, pos := "law.go:133", after := #[{ on := 13, ground := Ground.data }, { on := 14, ground := Ground.data }, { on := 10, ground := Ground.chain }, { on := 5, ground := Ground.guard }], guard := some (5, true) } : Oper)) rfl (fun K hK => ?_) AllReadyH.nil
                  · go_simp
                    go_at_call 12
                    refine (rsame_any xs ys a1 b2 c1 d2 w3 (RA.out.keep' hH3) (RB.out.keep' hH3) (by omega) (by omega)).mono ?_
                    rintro e w4 ⟨⟨j4, g4⟩, rfl⟩
                    have hb4 : Below w3.heap.size w3 w4 := by rw [g4]; exact below_drewN' _ _ _
                    have hH4 : Below wr.heap.size wr w4 := hH3.trans (hb4.mono hH3.size)
                    have hv4 := hv3.trans (hb4.mono hv3.size)
                    have hw4 := hw3.trans (hb4.mono hw3.size)
                    rw [HSAME.out]
                    (try dsimp only)
                    refine hK.out _ _ hH4 (fun hS4 => ?_)
                    clear hK K hb4 g4
                    (try simp only [Act.put, List.setIfInBounds_toArray, List.set_cons_zero, List.set_cons_succ])
                    refine wpAnyH_take (i := 16) (oi := ({ dst := some 91, op := Op.binOp BinOp.eql 4 (Operand.tmp 87) (Operand.tmp 90) 4, type := 4, pos := "law.go:133", after := #[{ on := 12, ground := Ground.data }, { on := 15, ground := Ground.data }, { on := 5, ground := Ground.guard }], guard := some (5, true) } : Oper)) (v := ?_) rfl (by kernel_rfl) (by kernel_rfl) (by kernel_rfl) (fun _ _ _ h => h) (Or.inl ⟨by rfl, ?_⟩) (by assumption) ?_
                    rotate_left
                    · (intro wz hSw; (try dsimp only at hSw); go_simp; try with_reducible rfl)
                    simp only [Act.put, List.setIfInBounds_toArray, List.set_cons_zero, List.set_cons_succ]
                    refine wpAnyH_take (i := 17) (oi := ({ dst := some 92, op := Op.pick (Operand.tmp 80) (Operand.tmp 91) (Operand.const (Value.bool false)), type := 4, pos := "law.go:133", after := #[{ on := 5, ground := Ground.data }, { on := 16, ground := Ground.data }], guard := none } : Oper)) (v := ?_) rfl (by kernel_rfl) (by kernel_rfl) (by kernel_rfl) (fun _ _ _ h => h) (Or.inl ⟨by rfl, ?_⟩) (by assumption) ?_
                    rotate_left
                    · (intro wz hSw; (try dsimp only at hSw); go_simp; try with_reducible rfl)
                    simp only [Act.put, List.setIfInBounds_toArray, List.set_cons_zero, List.set_cons_succ]
                    refine wpAnyH_take (i := 18) (oi := ({ dst := some 6, op := Op.assign (Operand.tmp 92), type := 4, pos := "law.go:133", after := #[{ on := 17, ground := Ground.data }, { on := 15, ground := Ground.chain }, { on := 0, ground := Ground.phase }, { on := 1, ground := Ground.phase }, { on := 2, ground := Ground.phase }, { on := 3, ground := Ground.phase }, { on := 4, ground := Ground.phase }, { on := 5, ground := Ground.phase }, { on := 6, ground := Ground.phase }, { on := 7, ground := Ground.phase }, { on := 8, ground := Ground.phase }, { on := 9, ground := Ground.phase }, { on := 10, ground := Ground.phase }, { on := 11, ground := Ground.phase }, { on := 12, ground := Ground.phase }, { on := 13, ground := Ground.phase }, { on := 14, ground := Ground.phase }, { on := 15, ground := Ground.phase }, { on := 16, ground := Ground.phase }, { on := 17, ground := Ground.phase }], guard := none } : Oper)) (v := ?_) rfl (by kernel_rfl) (by kernel_rfl) (by kernel_rfl) (fun _ _ _ h => h) (Or.inl ⟨by rfl, ?_⟩) (by assumption) ?_
                    rotate_left
                    · (intro wz hSw; (try dsimp only at hSw); go_simp; try with_reducible rfl)
                    simp only [Act.put, List.setIfInBounds_toArray, List.set_cons_zero, List.set_cons_succ]
                    refine wpAnyH_done (by kernel_rfl) ?_ _
                    go_wp2
                    go_ret
                    exact ⟨by simp, BW.out.trans (hH4.mono BW.out.size)⟩
                · go_simp
                  go_at_call 12
                  refine (rsame_any xs ys a1 b2 c1 d2 w3 (RA.out.keep' hH3) (RB.out.keep' hH3) (by omega) (by omega)).mono ?_
                  rintro e w4 ⟨⟨j4, g4⟩, rfl⟩
                  have hb4 : Below w3.heap.size w3 w4 := by rw [g4]; exact below_drewN' _ _ _
                  have hH4 : Below wr.heap.size wr w4 := hH3.trans (hb4.mono hH3.size)
                  have hv4 := hv3.trans (hb4.mono hv3.size)
                  have hw4 := hw3.trans (hb4.mono hw3.size)
                  rw [HSAME.out]
                  (try dsimp only)
                  refine hK.out _ _ hH4 (fun hS4 => ?_)
                  clear hK K hb4 g4
                  (try simp only [Act.put, List.setIfInBounds_toArray, List.set_cons_zero, List.set_cons_succ])
                  refine wpAnyH_ready (rs := [11]) (by kernel_rfl) (by simp) ?_
                  refine AllReadyH.cons (o := ({ dst := some 86, op := Op.convert 33 9 (Operand.tmp 85), type := 9, pos := "law.go:133", after := #[{ on := 10, ground := Ground.data }, { on := 5, ground := Ground.guard }], guard := some (5, true) } : Oper)) rfl (fun K hK => ?_) AllReadyH.nil
                  · have cvt := sbw _ hw4
                    go_simp
                    (try dsimp only)
                    refine hK.out _ _ hH4 (fun hSc11 => ?_)
                    clear hK K cvt
                    (try simp only [Act.put, List.setIfInBounds_toArray, List.set_cons_zero, List.set_cons_succ])
                    refine wpAnyH_take (i := 12) (oi := ({ dst := some 87, op := Op.binOp BinOp.eql 9 (Operand.tmp 83) (Operand.tmp 86) 9, type := 4, pos := "law.go:133", after := #[{ on := 8, ground := Ground.data }, { on := 11, ground := Ground.data }, { on := 5, ground := Ground.guard }], guard := some (5, true) } : Oper)) (v := ?_) rfl (by kernel_rfl) (by kernel_rfl) (by kernel_rfl) (fun _ _ _ h => h) (Or.inl ⟨by rfl, ?_⟩) (by assumption) ?_
                    rotate_left
                    · (intro wz hSw; (try dsimp only at hSw); go_simp; try with_reducible rfl)
                    simp only [Act.put, List.setIfInBounds_toArray, List.set_cons_zero, List.set_cons_succ]
                    refine wpAnyH_take (i := 16) (oi := ({ dst := some 91, op := Op.binOp BinOp.eql 4 (Operand.tmp 87) (Operand.tmp 90) 4, type := 4, pos := "law.go:133", after := #[{ on := 12, ground := Ground.data }, { on := 15, ground := Ground.data }, { on := 5, ground := Ground.guard }], guard := some (5, true) } : Oper)) (v := ?_) rfl (by kernel_rfl) (by kernel_rfl) (by kernel_rfl) (fun _ _ _ h => h) (Or.inl ⟨by rfl, ?_⟩) (by assumption) ?_
                    rotate_left
                    · (intro wz hSw; (try dsimp only at hSw); go_simp; try with_reducible rfl)
                    simp only [Act.put, List.setIfInBounds_toArray, List.set_cons_zero, List.set_cons_succ]
                    refine wpAnyH_take (i := 17) (oi := ({ dst := some 92, op := Op.pick (Operand.tmp 80) (Operand.tmp 91) (Operand.const (Value.bool false)), type := 4, pos := "law.go:133", after := #[{ on := 5, ground := Ground.data }, { on := 16, ground := Ground.data }], guard := none } : Oper)) (v := ?_) rfl (by kernel_rfl) (by kernel_rfl) (by kernel_rfl) (fun _ _ _ h => h) (Or.inl ⟨by rfl, ?_⟩) (by assumption) ?_
                    rotate_left
                    · (intro wz hSw; (try dsimp only at hSw); go_simp; try with_reducible rfl)
                    simp only [Act.put, List.setIfInBounds_toArray, List.set_cons_zero, List.set_cons_succ]
                    refine wpAnyH_take (i := 18) (oi := ({ dst := some 6, op := Op.assign (Operand.tmp 92), type := 4, pos := "law.go:133", after := #[{ on := 17, ground := Ground.data }, { on := 15, ground := Ground.chain }, { on := 0, ground := Ground.phase }, { on := 1, ground := Ground.phase }, { on := 2, ground := Ground.phase }, { on := 3, ground := Ground.phase }, { on := 4, ground := Ground.phase }, { on := 5, ground := Ground.phase }, { on := 6, ground := Ground.phase }, { on := 7, ground := Ground.phase }, { on := 8, ground := Ground.phase }, { on := 9, ground := Ground.phase }, { on := 10, ground := Ground.phase }, { on := 11, ground := Ground.phase }, { on := 12, ground := Ground.phase }, { on := 13, ground := Ground.phase }, { on := 14, ground := Ground.phase }, { on := 15, ground := Ground.phase }, { on := 16, ground := Ground.phase }, { on := 17, ground := Ground.phase }], guard := none } : Oper)) (v := ?_) rfl (by kernel_rfl) (by kernel_rfl) (by kernel_rfl) (fun _ _ _ h => h) (Or.inl ⟨by rfl, ?_⟩) (by assumption) ?_
                    rotate_left
                    · (intro wz hSw; (try dsimp only at hSw); go_simp; try with_reducible rfl)
                    simp only [Act.put, List.setIfInBounds_toArray, List.set_cons_zero, List.set_cons_succ]
                    refine wpAnyH_done (by kernel_rfl) ?_ _
                    go_wp2
                    go_ret
                    exact ⟨by simp, BW.out.trans (hH4.mono BW.out.size)⟩
            · go_simp
              go_at_call 14
              refine (bytesK B r6 PY w2 (TY.out.below hH2) (by omega)).mono ?_
              rintro e w3 ⟨bw, rfl, hb3, sbw⟩
              have hH3 : Below wr.heap.size wr w3 := hH2.trans (hb3.mono hH2.size)
              have hv3 := hv2.trans (hb3.mono hv2.size)
              have hw3 : Below w3.heap.size w3 w3 := Below.refl _ _
              (try dsimp only)
              refine hK.out _ _ hH3 (fun hS3 => ?_)
              clear hK K hb3
              (try simp only [Act.put, List.setIfInBounds_toArray, List.set_cons_zero, List.set_cons_succ])
              refine wpAnyH_ready (rs := [8, 11, 15]) (by kernel_rfl) (by simp) ?_
              refine AllReadyH.cons (o := ({ dst := some 83, op := Op.convert 33 9 (Operand.tmp 82), type := 9, pos := "law.go:133", after := #[{ on := 7, ground := Ground.data }, { on := 5, ground := Ground.guard }], guard := some (5, true) } : Oper)) rfl (fun K hK => ?_) (AllReadyH.cons (o := ({ dst := some 86, op := Op.convert 33 9 (Operand.tmp 85), type := 9, pos := "law.go:133", after := #[{ on := 10, ground := Ground.data }, { on := 5, ground := Ground.guard }], guard := some (5, true) } : Oper)) rfl (fun K hK => ?_) (AllReadyH.cons (o := ({ dst := some 90, op := Op.call { callee := Callee.value (Operand.func 12), args := #[Operand.tmp 88, Operand.tmp 89], argTypes := #[22, 22] }, type := 4, pos := "law.go:133", after := #[{ on := 13, ground := Ground.data }, { on := 14, ground := Ground.data }, { on := 10, ground := Ground.chain }, { on := 5, ground := Ground.guard }], guard := some (5, true) } : Oper)) rfl (fun K hK => ?_) AllReadyH.nil))
              · have cvt := sbv _ hv3
                go_simp
                (try dsimp only)
                refine hK.out _ _ hH3 (fun hSc8 => ?_)
                clear hK K cvt
                (try simp only [Act.put, List.setIfInBounds_toArray, List.set_cons_zero, List.set_cons_succ])
                refine wpAnyH_ready (rs := [11, 15]) (by kernel_rfl) (by simp) ?_
                refine AllReadyH.cons (o := ({ dst := some 86, op := Op.convert 33 9 (Operand.tmp 85), type := 9, pos := "law.go:133", after := #[{ on := 10, ground := Ground.data }, { on := 5, ground := Ground.guard }], guard := some (5, true) } : Oper)) rfl (fun K hK => ?_) (AllReadyH.cons (o := ({ dst := some 90, op := Op.call { callee := Callee.value (Operand.func 12), args := #[Operand.tmp 88, Operand.tmp 89], argTypes := #[22, 22] }, type := 4, pos := "law.go:133", after := #[{ on := 13, ground := Ground.data }, { on := 14, ground := Ground.data }, { on := 10, ground := Ground.chain }, { on := 5, ground := Ground.guard }], guard := some (5, true) } : Oper)) rfl (fun K hK => ?_) AllReadyH.nil)
                · have cvt := sbw _ hw3
                  go_simp
                  (try dsimp only)
                  refine hK.out _ _ hH3 (fun hSc11 => ?_)
                  clear hK K cvt
                  (try simp only [Act.put, List.setIfInBounds_toArray, List.set_cons_zero, List.set_cons_succ])
                  refine wpAnyH_take (i := 12) (oi := ({ dst := some 87, op := Op.binOp BinOp.eql 9 (Operand.tmp 83) (Operand.tmp 86) 9, type := 4, pos := "law.go:133", after := #[{ on := 8, ground := Ground.data }, { on := 11, ground := Ground.data }, { on := 5, ground := Ground.guard }], guard := some (5, true) } : Oper)) (v := ?_) rfl (by kernel_rfl) (by kernel_rfl) (by kernel_rfl) (fun _ _ _ h => h) (Or.inl ⟨by rfl, ?_⟩) (by assumption) ?_
                  rotate_left
                  · (intro wz hSw; (try dsimp only at hSw); go_simp; try with_reducible rfl)
                  simp only [Act.put, List.setIfInBounds_toArray, List.set_cons_zero, List.set_cons_succ]
                  refine wpAnyH_ready (rs := [15]) (by kernel_rfl) (by simp) ?_
                  refine AllReadyH.cons (o := ({ dst := some 90, op := Op.call { callee := Callee.value (Operand.func 12), args := #[Operand.tmp 88, Operand.tmp 89], argTypes := #[22, 22] }, type := 4, pos := "law.go:133", after := #[{ on := 13, ground := Ground.data }, { on := 14, ground := Ground.data }, { on := 10, ground := Ground.chain }, { on := 5, ground := Ground.guard }], guard := some (5, true) } : Oper)) rfl (fun K hK => ?_) AllReadyH.nil
                  · go_simp
                    go_at_call 12
                    refine (rsame_any xs ys a1 b2 c1 d2 w3 (RA.out.keep' hH3) (RB.out.keep' hH3) (by omega) (by omega)).mono ?_
                    rintro e w4 ⟨⟨j4, g4⟩, rfl⟩
                    have hb4 : Below w3.heap.size w3 w4 := by rw [g4]; exact below_drewN' _ _ _
                    have hH4 : Below wr.heap.size wr w4 := hH3.trans (hb4.mono hH3.size)
                    have hv4 := hv3.trans (hb4.mono hv3.size)
                    have hw4 := hw3.trans (hb4.mono hw3.size)
                    rw [HSAME.out]
                    (try dsimp only)
                    refine hK.out _ _ hH4 (fun hS4 => ?_)
                    clear hK K hb4 g4
                    (try simp only [Act.put, List.setIfInBounds_toArray, List.set_cons_zero, List.set_cons_succ])
                    refine wpAnyH_take (i := 16) (oi := ({ dst := some 91, op := Op.binOp BinOp.eql 4 (Operand.tmp 87) (Operand.tmp 90) 4, type := 4, pos := "law.go:133", after := #[{ on := 12, ground := Ground.data }, { on := 15, ground := Ground.data }, { on := 5, ground := Ground.guard }], guard := some (5, true) } : Oper)) (v := ?_) rfl (by kernel_rfl) (by kernel_rfl) (by kernel_rfl) (fun _ _ _ h => h) (Or.inl ⟨by rfl, ?_⟩) (by assumption) ?_
                    rotate_left
                    · (intro wz hSw; (try dsimp only at hSw); go_simp; try with_reducible rfl)
                    simp only [Act.put, List.setIfInBounds_toArray, List.set_cons_zero, List.set_cons_succ]
                    refine wpAnyH_take (i := 17) (oi := ({ dst := some 92, op := Op.pick (Operand.tmp 80) (Operand.tmp 91) (Operand.const (Value.bool false)), type := 4, pos := "law.go:133", after := #[{ on := 5, ground := Ground.data }, { on := 16, ground := Ground.data }], guard := none } : Oper)) (v := ?_) rfl (by kernel_rfl) (by kernel_rfl) (by kernel_rfl) (fun _ _ _ h => h) (Or.inl ⟨by rfl, ?_⟩) (by assumption) ?_
                    rotate_left
                    · (intro wz hSw; (try dsimp only at hSw); go_simp; try with_reducible rfl)
                    simp only [Act.put, List.setIfInBounds_toArray, List.set_cons_zero, List.set_cons_succ]
                    refine wpAnyH_take (i := 18) (oi := ({ dst := some 6, op := Op.assign (Operand.tmp 92), type := 4, pos := "law.go:133", after := #[{ on := 17, ground := Ground.data }, { on := 15, ground := Ground.chain }, { on := 0, ground := Ground.phase }, { on := 1, ground := Ground.phase }, { on := 2, ground := Ground.phase }, { on := 3, ground := Ground.phase }, { on := 4, ground := Ground.phase }, { on := 5, ground := Ground.phase }, { on := 6, ground := Ground.phase }, { on := 7, ground := Ground.phase }, { on := 8, ground := Ground.phase }, { on := 9, ground := Ground.phase }, { on := 10, ground := Ground.phase }, { on := 11, ground := Ground.phase }, { on := 12, ground := Ground.phase }, { on := 13, ground := Ground.phase }, { on := 14, ground := Ground.phase }, { on := 15, ground := Ground.phase }, { on := 16, ground := Ground.phase }, { on := 17, ground := Ground.phase }], guard := none } : Oper)) (v := ?_) rfl (by kernel_rfl) (by kernel_rfl) (by kernel_rfl) (fun _ _ _ h => h) (Or.inl ⟨by rfl, ?_⟩) (by assumption) ?_
                    rotate_left
                    · (intro wz hSw; (try dsimp only at hSw); go_simp; try with_reducible rfl)
                    simp only [Act.put, List.setIfInBounds_toArray, List.set_cons_zero, List.set_cons_succ]
                    refine wpAnyH_done (by kernel_rfl) ?_ _
                    go_wp2
                    go_ret
                    exact ⟨by simp, BW.out.trans (hH4.mono BW.out.size)⟩
                · go_simp
                  go_at_call 12
                  refine (rsame_any xs ys a1 b2 c1 d2 w3 (RA.out.keep' hH3) (RB.out.keep' hH3) (by omega) (by omega)).mono ?_
                  rintro e w4 ⟨⟨j4, g4⟩, rfl⟩
                  have hb4 : Below w3.heap.size w3 w4 := by rw [g4]; exact below_drewN' _ _ _
                  have hH4 : Below wr.heap.size wr w4 := hH3.trans (hb4.mono hH3.size)
                  have hv4 := hv3.trans (hb4.mono hv3.size)
                  have hw4 := hw3.trans (hb4.mono hw3.size)
                  rw [HSAME.out]
                  (try dsimp only)
                  refine hK.out _ _ hH4 (fun hS4 => ?_)
                  clear hK K hb4 g4
                  (try simp only [Act.put, List.setIfInBounds_toArray, List.set_cons_zero, List.set_cons_succ])
                  refine wpAnyH_ready (rs := [11]) (by kernel_rfl) (by simp) ?_
                  refine AllReadyH.cons (o := ({ dst := some 86, op := Op.convert 33 9 (Operand.tmp 85), type := 9, pos := "law.go:133", after := #[{ on := 10, ground := Ground.data }, { on := 5, ground := Ground.guard }], guard := some (5, true) } : Oper)) rfl (fun K hK => ?_) AllReadyH.nil
                  · have cvt := sbw _ hw4
                    go_simp
                    (try dsimp only)
                    refine hK.out _ _ hH4 (fun hSc11 => ?_)
                    clear hK K cvt
                    (try simp only [Act.put, List.setIfInBounds_toArray, List.set_cons_zero, List.set_cons_succ])
                    refine wpAnyH_take (i := 12) (oi := ({ dst := some 87, op := Op.binOp BinOp.eql 9 (Operand.tmp 83) (Operand.tmp 86) 9, type := 4, pos := "law.go:133", after := #[{ on := 8, ground := Ground.data }, { on := 11, ground := Ground.data }, { on := 5, ground := Ground.guard }], guard := some (5, true) } : Oper)) (v := ?_) rfl (by kernel_rfl) (by kernel_rfl) (by kernel_rfl) (fun _ _ _ h => h) (Or.inl ⟨by rfl, ?_⟩) (by assumption) ?_
                    rotate_left
                    · (intro wz hSw; (try dsimp only at hSw); go_simp; try with_reducible rfl)
                    simp only [Act.put, List.setIfInBounds_toArray, List.set_cons_zero, List.set_cons_succ]
                    refine wpAnyH_take (i := 16) (oi := ({ dst := some 91, op := Op.binOp BinOp.eql 4 (Operand.tmp 87) (Operand.tmp 90) 4, type := 4, pos := "law.go:133", after := #[{ on := 12, ground := Ground.data }, { on := 15, ground := Ground.data }, { on := 5, ground := Ground.guard }], guard := some (5, true) } : Oper)) (v := ?_) rfl (by kernel_rfl) (by kernel_rfl) (by kernel_rfl) (fun _ _ _ h => h) (Or.inl ⟨by rfl, ?_⟩) (by assumption) ?_
                    rotate_left
                    · (intro wz hSw; (try dsimp only at hSw); go_simp; try with_reducible rfl)
                    simp only [Act.put, List.setIfInBounds_toArray, List.set_cons_zero, List.set_cons_succ]
                    refine wpAnyH_take (i := 17) (oi := ({ dst := some 92, op := Op.pick (Operand.tmp 80) (Operand.tmp 91) (Operand.const (Value.bool false)), type := 4, pos := "law.go:133", after := #[{ on := 5, ground := Ground.data }, { on := 16, ground := Ground.data }], guard := none } : Oper)) (v := ?_) rfl (by kernel_rfl) (by kernel_rfl) (by kernel_rfl) (fun _ _ _ h => h) (Or.inl ⟨by rfl, ?_⟩) (by assumption) ?_
                    rotate_left
                    · (intro wz hSw; (try dsimp only at hSw); go_simp; try with_reducible rfl)
                    simp only [Act.put, List.setIfInBounds_toArray, List.set_cons_zero, List.set_cons_succ]
                    refine wpAnyH_take (i := 18) (oi := ({ dst := some 6, op := Op.assign (Operand.tmp 92), type := 4, pos := "law.go:133", after := #[{ on := 17, ground := Ground.data }, { on := 15, ground := Ground.chain }, { on := 0, ground := Ground.phase }, { on := 1, ground := Ground.phase }, { on := 2, ground := Ground.phase }, { on := 3, ground := Ground.phase }, { on := 4, ground := Ground.phase }, { on := 5, ground := Ground.phase }, { on := 6, ground := Ground.phase }, { on := 7, ground := Ground.phase }, { on := 8, ground := Ground.phase }, { on := 9, ground := Ground.phase }, { on := 10, ground := Ground.phase }, { on := 11, ground := Ground.phase }, { on := 12, ground := Ground.phase }, { on := 13, ground := Ground.phase }, { on := 14, ground := Ground.phase }, { on := 15, ground := Ground.phase }, { on := 16, ground := Ground.phase }, { on := 17, ground := Ground.phase }], guard := none } : Oper)) (v := ?_) rfl (by kernel_rfl) (by kernel_rfl) (by kernel_rfl) (fun _ _ _ h => h) (Or.inl ⟨by rfl, ?_⟩) (by assumption) ?_
                    rotate_left
                    · (intro wz hSw; (try dsimp only at hSw); go_simp; try with_reducible rfl)
                    simp only [Act.put, List.setIfInBounds_toArray, List.set_cons_zero, List.set_cons_succ]
                    refine wpAnyH_done (by kernel_rfl) ?_ _
                    go_wp2
                    go_ret
                    exact ⟨by simp, BW.out.trans (hH4.mono BW.out.size)⟩
              · have cvt := sbw _ hw3
                go_simp
                (try dsimp only)
                refine hK.out _ _ hH3 (fun hSc11 => ?_)
                clear hK K cvt
                (try simp only [Act.put, List.setIfInBounds_toArray, List.set_cons_zero, List.set_cons_succ])
                refine wpAnyH_ready (rs := [8, 15]) (by kernel_rfl) (by simp) ?_
                refine AllReadyH.cons (o := ({ dst := some 83, op := Op.convert 33 9 (Operand.tmp 82), type := 9, pos := "law.go:133", after := #[{ on := 7, ground := Ground.data }, { on := 5, ground := Ground.guard }], guard := some (5, true) } : Oper)) rfl (fun K hK => ?_) (AllReadyH.cons (o := ({ dst := some 90, op := Op.call { callee := Callee.value (Operand.func 12), args := #[Operand.tmp 88, Operand.tmp 89], argTypes := #[22, 22] }, type := 4, pos := "law.go:133", after := #[{ on := 13, ground := Ground.data }, { on := 14, ground := Ground.data }, { on := 10, ground := Ground.chain }, { on := 5, ground := Ground.guard }], guard := some (5, true) } : Oper)) rfl (fun K hK => ?_) AllReadyH.nil)
                · have cvt := sbv _ hv3
                  go_simp
                  (try dsimp only)
                  refine hK.out _ _ hH3 (fun hSc8 => ?_)
                  clear hK K cvt
                  (try simp only [Act.put, List.setIfInBounds_toArray, List.set_cons_zero, List.set_cons_succ])
                  refine wpAnyH_take (i := 12) (oi := ({ dst := some 87, op := Op.binOp BinOp.eql 9 (Operand.tmp 83) (Operand.tmp 86) 9, type := 4, pos := "law.go:133", after := #[{ on := 8, ground := Ground.data }, { on := 11, ground := Ground.data }, { on := 5, ground := Ground.guard }], guard := some (5, true) } : Oper)) (v := ?_) rfl (by kernel_rfl) (by kernel_rfl) (by kernel_rfl) (fun _ _ _ h => h) (Or.inl ⟨by rfl, ?_⟩) (by assumption) ?_
                  rotate_left
                  · (intro wz hSw; (try dsimp only at hSw); go_simp; try with_reducible rfl)
                  simp only [Act.put, List.setIfInBounds_toArray, List.set_cons_zero, List.set_cons_succ]
                  refine wpAnyH_ready (rs := [15]) (by kernel_rfl) (by simp) ?_
                  refine AllReadyH.cons (o := ({ dst := some 90, op := Op.call { callee := Callee.value (Operand.func 12), args := #[Operand.tmp 88, Operand.tmp 89], argTypes := #[22, 22] }, type := 4, pos := "law.go:133", after := #[{ on := 13, ground := Ground.data }, { on := 14, ground := Ground.data }, { on := 10, ground := Ground.chain }, { on := 5, ground := Ground.guard }], guard := some (5, true) } : Oper)) rfl (fun K hK => ?_) AllReadyH.nil
                  · go_simp
                    go_at_call 12
                    refine (rsame_any xs ys a1 b2 c1 d2 w3 (RA.out.keep' hH3) (RB.out.keep' hH3) (by omega) (by omega)).mono ?_
                    rintro e w4 ⟨⟨j4, g4⟩, rfl⟩
                    have hb4 : Below w3.heap.size w3 w4 := by rw [g4]; exact below_drewN' _ _ _
                    have hH4 : Below wr.heap.size wr w4 := hH3.trans (hb4.mono hH3.size)
                    have hv4 := hv3.trans (hb4.mono hv3.size)
                    have hw4 := hw3.trans (hb4.mono hw3.size)
                    rw [HSAME.out]
                    (try dsimp only)
                    refine hK.out _ _ hH4 (fun hS4 => ?_)
                    clear hK K hb4 g4
                    (try simp only [Act.put, List.setIfInBounds_toArray, List.set_cons_zero, List.set_cons_succ])
                    refine wpAnyH_take (i := 16) (oi := ({ dst := some 91, op := Op.binOp BinOp.eql 4 (Operand.tmp 87) (Operand.tmp 90) 4, type := 4, pos := "law.go:133", after := #[{ on := 12, ground := Ground.data }, { on := 15, ground := Ground.data }, { on := 5, ground := Ground.guard }], guard := some (5, true) } : Oper)) (v := ?_) rfl (by kernel_rfl) (by kernel_rfl) (by kernel_rfl) (fun _ _ _ h => h) (Or.inl ⟨by rfl, ?_⟩) (by assumption) ?_
                    rotate_left
                    · (intro wz hSw; (try dsimp only at hSw); go_simp; try with_reducible rfl)
                    simp only [Act.put, List.setIfInBounds_toArray, List.set_cons_zero, List.set_cons_succ]
                    refine wpAnyH_take (i := 17) (oi := ({ dst := some 92, op := Op.pick (Operand.tmp 80) (Operand.tmp 91) (Operand.const (Value.bool false)), type := 4, pos := "law.go:133", after := #[{ on := 5, ground := Ground.data }, { on := 16, ground := Ground.data }], guard := none } : Oper)) (v := ?_) rfl (by kernel_rfl) (by kernel_rfl) (by kernel_rfl) (fun _ _ _ h => h) (Or.inl ⟨by rfl, ?_⟩) (by assumption) ?_
                    rotate_left
                    · (intro wz hSw; (try dsimp only at hSw); go_simp; try with_reducible rfl)
                    simp only [Act.put, List.setIfInBounds_toArray, List.set_cons_zero, List.set_cons_succ]
                    refine wpAnyH_take (i := 18) (oi := ({ dst := some 6, op := Op.assign (Operand.tmp 92), type := 4, pos := "law.go:133", after := #[{ on := 17, ground := Ground.data }, { on := 15, ground := Ground.chain }, { on := 0, ground := Ground.phase }, { on := 1, ground := Ground.phase }, { on := 2, ground := Ground.phase }, { on := 3, ground := Ground.phase }, { on := 4, ground := Ground.phase }, { on := 5, ground := Ground.phase }, { on := 6, ground := Ground.phase }, { on := 7, ground := Ground.phase }, { on := 8, ground := Ground.phase }, { on := 9, ground := Ground.phase }, { on := 10, ground := Ground.phase }, { on := 11, ground := Ground.phase }, { on := 12, ground := Ground.phase }, { on := 13, ground := Ground.phase }, { on := 14, ground := Ground.phase }, { on := 15, ground := Ground.phase }, { on := 16, ground := Ground.phase }, { on := 17, ground := Ground.phase }], guard := none } : Oper)) (v := ?_) rfl (by kernel_rfl) (by kernel_rfl) (by kernel_rfl) (fun _ _ _ h => h) (Or.inl ⟨by rfl, ?_⟩) (by assumption) ?_
                    rotate_left
                    · (intro wz hSw; (try dsimp only at hSw); go_simp; try with_reducible rfl)
                    simp only [Act.put, List.setIfInBounds_toArray, List.set_cons_zero, List.set_cons_succ]
                    refine wpAnyH_done (by kernel_rfl) ?_ _
                    go_wp2
                    go_ret
                    exact ⟨by simp, BW.out.trans (hH4.mono BW.out.size)⟩
                · go_simp
                  go_at_call 12
                  refine (rsame_any xs ys a1 b2 c1 d2 w3 (RA.out.keep' hH3) (RB.out.keep' hH3) (by omega) (by omega)).mono ?_
                  rintro e w4 ⟨⟨j4, g4⟩, rfl⟩
                  have hb4 : Below w3.heap.size w3 w4 := by rw [g4]; exact below_drewN' _ _ _
                  have hH4 : Below wr.heap.size wr w4 := hH3.trans (hb4.mono hH3.size)
                  have hv4 := hv3.trans (hb4.mono hv3.size)
                  have hw4 := hw3.trans (hb4.mono hw3.size)
                  rw [HSAME.out]
                  (try dsimp only)
                  refine hK.out _ _ hH4 (fun hS4 => ?_)
                  clear hK K hb4 g4
                  (try simp only [Act.put, List.setIfInBounds_toArray, List.set_cons_zero, List.set_cons_succ])
                  refine wpAnyH_ready (rs := [8]) (by kernel_rfl) (by simp) ?_
                  refine AllReadyH.cons (o := ({ dst := some 83, op := Op.convert 33 9 (Operand.tmp 82), type := 9, pos := "law.go:133", after := #[{ on := 7, ground := Ground.data }, { on := 5, ground := Ground.guard }], guard := some (5, true) } : Oper)) rfl (fun K hK => ?_) AllReadyH.nil
                  · have cvt := sbv _ hv4
                    go_simp
                    (try dsimp only)
                    refine hK.out _ _ hH4 (fun hSc8 => ?_)
                    clear hK K cvt
                    (try simp only [Act.put, List.setIfInBounds_toArray, List.set_cons_zero, List.set_cons_succ])
                    refine wpAnyH_take (i := 12) (oi := ({ dst := some 87, op := Op.binOp BinOp.eql 9 (Operand.tmp 83) (Operand.tmp 86) 9, type := 4, pos := "law.go:133", after := #[{ on := 8, ground := Ground.data }, { on := 11, ground := Ground.data }, { on := 5, ground := Ground.guard }], guard := some (5, true) } : Oper)) (v := ?_) rfl (by kernel_rfl) (by kernel_rfl) (by kernel_rfl) (fun _ _ _ h => h) (Or.inl ⟨by rfl, ?_⟩) (by assumption) ?_
                    rotate_left
                    · (intro wz hSw; (try dsimp only at hSw); go_simp; try with_reducible rfl)
                    simp only [Act.put, List.setIfInBounds_toArray, List.set_cons_zero, List.set_cons_succ]
                    refine wpAnyH_take (i := 16) (oi := ({ dst := some 91, op := Op.binOp BinOp.eql 4 (Operand.tmp 87) (Operand.tmp 90) 4, type := 4, pos := "law.go:133", after := #[{ on := 12, ground := Ground.data }, { on := 15, ground := Ground.data }, { on := 5, ground := Ground.guard }], guard := some (5, true) } : Oper)) (v := ?_) rfl (by kernel_rfl) (by kernel_rfl) (by kernel_rfl) (fun _ _ _ h => h) (Or.inl ⟨by rfl, ?_⟩) (by assumption) ?_
                    rotate_left
                    · (intro wz hSw; (try dsimp only at hSw); go_simp; try with_reducible rfl)
                    simp only [Act.put, List.setIfInBounds_toArray, List.set_cons_zero, List.set_cons_succ]
                    refine wpAnyH_take (i := 17) (oi := ({ dst := some 92, op := Op.pick (Operand.tmp 80) (Operand.tmp 91) (Operand.const (Value.bool false)), type := 4, pos := "law.go:133", after := #[{ on := 5, ground := Ground.data }, { on := 16, ground := Ground.data }], guard := none } : Oper)) (v := ?_) rfl (by kernel_rfl) (by kernel_rfl) (by kernel_rfl) (fun _ _ _ h => h) (Or.inl ⟨by rfl, ?_⟩) (by assumption) ?_
                    rotate_left
                    · (intro wz hSw; (try dsimp only at hSw); go_simp; try with_reducible rfl)
                    simp only [Act.put, List.setIfInBounds_toArray, List.set_cons_zero, List.set_cons_succ]
                    refine wpAnyH_take (i := 18) (oi := ({ dst := some 6, op := Op.assign (Operand.tmp 92), type := 4, pos := "law.go:133", after := #[{ on := 17, ground := Ground.data }, { on := 15, ground := Ground.chain }, { on := 0, ground := Ground.phase }, { on := 1, ground := Ground.phase }, { on := 2, ground := Ground.phase }, { on := 3, ground := Ground.phase }, { on := 4, ground := Ground.phase }, { on := 5, ground := Ground.phase }, { on := 6, ground := Ground.phase }, { on := 7, ground := Ground.phase }, { on := 8, ground := Ground.phase }, { on := 9, ground := Ground.phase }, { on := 10, ground := Ground.phase }, { on := 11, ground := Ground.phase }, { on := 12, ground := Ground.phase }, { on := 13, ground := Ground.phase }, { on := 14, ground := Ground.phase }, { on := 15, ground := Ground.phase }, { on := 16, ground := Ground.phase }, { on := 17, ground := Ground.phase }], guard := none } : Oper)) (v := ?_) rfl (by kernel_rfl) (by kernel_rfl) (by kernel_rfl) (fun _ _ _ h => h) (Or.inl ⟨by rfl, ?_⟩) (by assumption) ?_
                    rotate_left
                    · (intro wz hSw; (try dsimp only at hSw); go_simp; try with_reducible rfl)
                    simp only [Act.put, List.setIfInBounds_toArray, List.set_cons_zero, List.set_cons_succ]
                    refine wpAnyH_done (by kernel_rfl) ?_ _
                    go_wp2
                    go_ret
                    exact ⟨by simp, BW.out.trans (hH4.mono BW.out.size)⟩
              · go_simp
                go_at_call 12
                refine (rsame_any xs ys a1 b2 c1 d2 w3 (RA.out.keep' hH3) (RB.out.keep' hH3) (by omega) (by omega)).mono ?_
                rintro e w4 ⟨⟨j4, g4⟩, rfl⟩
                have hb4 : Below w3.heap.size w3 w4 := by rw [g4]; exact below_drewN' _ _ _
                have hH4 : Below wr.heap.size wr w4 := hH3.trans (hb4.mono hH3.size)
                have hv4 := hv3.trans (hb4.mono hv3.size)
                have hw4 := hw3.trans (hb4.mono hw3.size)
                rw [HSAME.out]
                (try dsimp only)
                refine hK.out _ _ hH4 (fun hS4 => ?_)
                clear hK K hb4 g4
                (try simp only [Act.put, List.setIfInBounds_toArray, List.set_cons_zero, List.set_cons_succ])
                refine wpAnyH_ready (rs := [8, 11]) (by kernel_rfl) (by simp) ?_
                refine AllReadyH.cons (o := ({ dst := some 83, op := Op.convert 33 9 (Operand.tmp 82), type := 9, pos := "law.go:133", after := #[{ on := 7, ground := Ground.data }, { on := 5, ground := Ground.guard }], guard := some (5, true) } : Oper)) rfl (fun K hK => ?_) (AllReadyH.cons (o := ({ dst := some 86, op := Op.convert 33 9 (Operand.tmp 85), type := 9, pos := "law.go:133", after := #[{ on := 10, ground := Ground.data }, { on := 5, ground := Ground.guard }], guard := some (5, true) } : Oper)) rfl (fun K hK => ?_) AllReadyH.nil)
                · have cvt := sbv _ hv4
                  go_simp
                  (try dsimp only)
                  refine hK.out _ _ hH4 (fun hSc8 => ?_)
                  clear hK K cvt
                  (try simp only [Act.put, List.setIfInBounds_toArray, List.set_cons_zero, List.set_cons_succ])
                  refine wpAnyH_ready (rs := [11]) (by kernel_rfl) (by simp) ?_
                  refine AllReadyH.cons (o := ({ dst := some 86, op := Op.convert 33 9 (Operand.tmp 85), type := 9, pos := "law.go:133", after := #[{ on := 10, ground := Ground.data }, { on := 5, ground := Ground.guard }], guard := some (5, true) } : Oper)) rfl (fun K hK => ?_) AllReadyH.nil
                  · have cvt := sbw _ hw4
                    go_simp
                    (try dsimp only)
                    refine hK.out _ _ hH4 (fun hSc11 => ?_)
                    clear hK K cvt
                    (try simp only [Act.put, List.setIfInBounds_toArray, List.set_cons_zero, List.set_cons_succ])
                    refine wpAnyH_take (i := 12) (oi := ({ dst := some 87, op := Op.binOp BinOp.eql 9 (Operand.tmp 83) (Operand.tmp 86) 9, type := 4, pos := "law.go:133", after := #[{ on := 8, ground := Ground.data }, { on := 11, ground := Ground.data }, { on := 5, ground := Ground.guard }], guard := some (5, true) } : Oper)) (v := ?_) rfl (by kernel_rfl) (by kernel_rfl) (by kernel_rfl) (fun _ _ _ h => h) (Or.inl ⟨by rfl, ?_⟩) (by assumption) ?_
                    rotate_left
                    · (intro wz hSw; (try dsimp only at hSw); go_simp; try with_reducible rfl)
                    simp only [Act.put, List.setIfInBounds_toArray, List.set_cons_zero, List.set_cons_succ]
                    refine wpAnyH_take (i := 16) (oi := ({ dst := some 91, op := Op.binOp BinOp.eql 4 (Operand.tmp 87) (Operand.tmp 90) 4, type := 4, pos := "law.go:133", after := #[{ on := 12, ground := Ground.data }, { on := 15, ground := Ground.data }, { on := 5, ground := Ground.guard }], guard := some (5, true) } : Oper)) (v := ?_) rfl (by kernel_rfl) (by kernel_rfl) (by kernel_rfl) (fun _ _ _ h => h) (Or.inl ⟨by rfl, ?_⟩) (by assumption) ?_
                    rotate_left
                    · (intro wz hSw; (try dsimp only at hSw); go_simp; try with_reducible rfl)
                    simp only [Act.put, List.setIfInBounds_toArray, List.set_cons_zero, List.set_cons_succ]
                    refine wpAnyH_take (i := 17) (oi := ({ dst := some 92, op := Op.pick (Operand.tmp 80) (Operand.tmp 91) (Operand.const (Value.bool false)), type := 4, pos := "law.go:133", after := #[{ on := 5, ground := Ground.data }, { on := 16, ground := Ground.data }], guard := none } : Oper)) (v := ?_) rfl (by kernel_rfl) (by kernel_rfl) (by kernel_rfl) (fun _ _ _ h => h) (Or.inl ⟨by rfl, ?_⟩) (by assumption) ?_
                    rotate_left
                    · (intro wz hSw; (try dsimp only at hSw); go_simp; try with_reducible rfl)
                    simp only [Act.put, List.setIfInBounds_toArray, List.set_cons_zero, List.set_cons_succ]
                    refine wpAnyH_take (i := 18) (oi := ({ dst := some 6, op := Op.assign (Operand.tmp 92), type := 4, pos := "law.go:133", after := #[{ on := 17, ground := Ground.data }, { on := 15, ground := Ground.chain }, { on := 0, ground := Ground.phase }, { on := 1, ground := Ground.phase }, { on := 2, ground := Ground.phase }, { on := 3, ground := Ground.phase }, { on := 4, ground := Ground.phase }, { on := 5, ground := Ground.phase }, { on := 6, ground := Ground.phase }, { on := 7, ground := Ground.phase }, { on := 8, ground := Ground.phase }, { on := 9, ground := Ground.phase }, { on := 10, ground := Ground.phase }, { on := 11, ground := Ground.phase }, { on := 12, ground := Ground.phase }, { on := 13, ground := Ground.phase }, { on := 14, ground := Ground.phase }, { on := 15, ground := Ground.phase }, { on := 16, ground := Ground.phase }, { on := 17, ground := Ground.phase }], guard := none } : Oper)) (v := ?_) rfl (by kernel_rfl) (by kernel_rfl) (by kernel_rfl) (fun _ _ _ h => h) (Or.inl ⟨by rfl, ?_⟩) (by assumption) ?_
                    rotate_left
                    · (intro wz hSw; (try dsimp only at hSw); go_simp; try with_reducible rfl)
                    simp only [Act.put, List.setIfInBounds_toArray, List.set_cons_zero, List.set_cons_succ]
                    refine wpAnyH_done (by kernel_rfl) ?_ _
                    go_wp2
                    go_ret
                    exact ⟨by simp, BW.out.trans (hH4.mono BW.out.size)⟩
                · have cvt := sbw _ hw4
                  go_simp
                  (try dsimp only)
                  refine hK.out _ _ hH4 (fun hSc11 => ?_)
                  clear hK K cvt
                  (try simp only [Act.put, List.setIfInBounds_toArray, List.set_cons_zero, List.set_cons_succ])
                  refine wpAnyH_ready (rs := [8]) (by kernel_rfl) (by simp) ?_
                  refine AllReadyH.cons (o := ({ dst := some 83, op := Op.convert 33 9 (Operand.tmp 82), type := 9, pos := "law.go:133", after := #[{ on := 7, ground := Ground.data }, { on := 5, ground := Ground.guard }], guard := some (5, true) } : Oper)) rfl (fun K hK => ?_) AllReadyH.nil
                  · have cvt := sbv _ hv4
                    go_simp
                    (try dsimp only)
                    refine hK.out _ _ hH4 (fun hSc8 => ?_)
                    clear hK K cvt
                    (try simp only [Act.put, List.setIfInBounds_toArray, List.set_cons_zero, List.set_cons_succ])
                    refine wpAnyH_take (i := 12) (oi := ({ dst := some 87, op := Op.binOp BinOp.eql 9 (Operand.tmp 83) (Operand.tmp 86) 9, type := 4, pos := "law.go:133", after := #[{ on := 8, ground := Ground.data }, { on := 11, ground := Ground.data }, { on := 5, ground := Ground.guard }], guard := some (5, true) } : Oper)) (v := ?_) rfl (by kernel_rfl) (by kernel_rfl) (by kernel_rfl) (fun _ _ _ h => h) (Or.inl ⟨by rfl, ?_⟩) (by assumption) ?_
                    rotate_left
                    · (intro wz hSw; (try dsimp only at hSw); go_simp; try with_reducible rfl)
                    simp only [Act.put, List.setIfInBounds_toArray, List.set_cons_zero, List.set_cons_succ]
                    refine wpAnyH_take (i := 16) (oi := ({ dst := some 91, op := Op.binOp BinOp.eql 4 (Operand.tmp 87) (Operand.tmp 90) 4, type := 4, pos := "law.go:133", after := #[{ on := 12, ground := Ground.data }, { on := 15, ground := Ground.data }, { on := 5, ground := Ground.guard }], guard := some (5, true) } : Oper)) (v := ?_) rfl (by kernel_rfl) (by kernel_rfl) (by kernel_rfl) (fun _ _ _ h => h) (Or.inl ⟨by rfl, ?_⟩) (by assumption) ?_
                    rotate_left
                    · (intro wz hSw; (try dsimp only at hSw); go_simp; try with_reducible rfl)
                    simp only [Act.put, List.setIfInBounds_toArray, List.set_cons_zero, List.set_cons_succ]
                    refine wpAnyH_take (i := 17) (oi := ({ dst := some 92, op := Op.pick (Operand.tmp 80) (Operand.tmp 91) (Operand.const (Value.bool false)), type := 4, pos := "law.go:133", after := #[{ on := 5, ground := Ground.data }, { on := 16, ground := Ground.data }], guard := none } : Oper)) (v := ?_) rfl (by kernel_rfl) (by kernel_rfl) (by kernel_rfl) (fun _ _ _ h => h) (Or.inl ⟨by rfl, ?_⟩) (by assumption) ?_
                    rotate_left
                    · (intro wz hSw; (try dsimp only at hSw); go_simp; try with_reducible rfl)
                    simp only [Act.put, List.setIfInBounds_toArray, List.set_cons_zero, List.set_cons_succ]
                    refine wpAnyH_take (i := 18) (oi := ({ dst := some 6, op := Op.assign (Operand.tmp 92), type := 4, pos := "law.go:133", after := #[{ on := 17, ground := Ground.data }, { on := 15, ground := Ground.chain }, { on := 0, ground := Ground.phase }, { on := 1, ground := Ground.phase }, { on := 2, ground := Ground.phase }, { on := 3, ground := Ground.phase }, { on := 4, ground := Ground.phase }, { on := 5, ground := Ground.phase }, { on := 6, ground := Ground.phase }, { on := 7, ground := Ground.phase }, { on := 8, ground := Ground.phase }, { on := 9, ground := Ground.phase }, { on := 10, ground := Ground.phase }, { on := 11, ground := Ground.phase }, { on := 12, ground := Ground.phase }, { on := 13, ground := Ground.phase }, { on := 14, ground := Ground.phase }, { on := 15, ground := Ground.phase }, { on := 16, ground := Ground.phase }, { on := 17, ground := Ground.phase }], guard := none } : Oper)) (v := ?_) rfl (by kernel_rfl) (by kernel_rfl) (by kernel_rfl) (fun _ _ _ h => h) (Or.inl ⟨by rfl, ?_⟩) (by assumption) ?_
                    rotate_left
                    · (intro wz hSw; (try dsimp only at hSw); go_simp; try with_reducible rfl)
                    simp only [Act.put, List.setIfInBounds_toArray, List.set_cons_zero, List.set_cons_succ]
                    refine wpAnyH_done (by kernel_rfl) ?_ _
                    go_wp2
                    go_ret
                    exact ⟨by simp, BW.out.trans (hH4.mono BW.out.size)⟩
      · have HSAME : Hid (sameL xs ys = false) := decide_eq_false hxy
        have HNE : ¬ PX = PY := fun e => hxy (HIN.out e)
        clear hxy
        go_wp2_with fail
        refine wp_region_held_drew (S := fun W => Below wr.heap.size wr W) (by kernel_rfl) ((Below.refl _ _).drew) (fun hS0 => ?_)
        obtain ⟨w0, hw0⟩ : ∃ w0, w0 = wr.drew := ⟨_, rfl⟩
        rw [← hw0] at hS0 ⊢
        clear hw0
        have hH0 : Below wr.heap.size wr w0 := hS0
        refine wpAnyH_ready (rs := [0]) (by kernel_rfl) (by simp) ?_
        refine AllReadyH.cons (o := ({ dst := some 75, op := Op.call { callee := Callee.value (Operand.func 10), args := #[], argTypes := #[] }, type := 4, pos := "law.go:133", after := #[], guard := none } : Oper)) rfl (fun K hK => ?_) AllReadyH.nil
        · go_simp
          go_at_call 10
          refine (lays_any _).mono ?_
          rintro e w1 ⟨rfl, hb1⟩
          have hH1 : Below wr.heap.size wr w1 := hH0.trans (hb1.mono hH0.size)
          (try dsimp only)
          refine hK.out _ _ hH1 (fun hS1 => ?_)
          clear hK K hb1
          (try simp only [Act.put, List.setIfInBounds_toArray, List.set_cons_zero, List.set_cons_succ])
          refine wpAnyH_take (i := 1) (oi := ({ dst := some 76, op := Op.move (Operand.tmp 75), type := 4, pos := "law.go:133", after := #[{ on := 0, ground := Ground.data }, { on := 0, ground := Ground.chain }], guard := none } : Oper)) (v := ?_) rfl (by kernel_rfl) (by kernel_rfl) (by kernel_rfl) (fun _ _ _ h => h) (Or.inl ⟨by rfl, ?_⟩) (by assumption) ?_
          rotate_left
          · (intro wz hSw; (try dsimp only at hSw); go_simp; try with_reducible rfl)
          simp only [Act.put, List.setIfInBounds_toArray, List.set_cons_zero, List.set_cons_succ]
          refine wpAnyH_take (i := 2) (oi := ({ dst := some 77, op := Op.move (Operand.tmp 13), type := 3, pos := "law.go:133", after := #[{ on := 1, ground := Ground.guard }], guard := some (1, true) } : Oper)) (v := ?_) rfl (by kernel_rfl) (by kernel_rfl) (by kernel_rfl) (fun _ _ _ h => h) (Or.inl ⟨by rfl, ?_⟩) (by assumption) ?_
          rotate_left
          · (intro wz hSw; (try dsimp only at hSw); go_simp; try with_reducible rfl)
          simp only [Act.put, List.setIfInBounds_toArray, List.set_cons_zero, List.set_cons_succ]
          refine wpAnyH_take (i := 3) (oi := ({ dst := some 78, op := Op.binOp BinOp.eql 3 (Operand.tmp 77) (Operand.const (Value.int IntKind.i64 1)) 3, type := 4, pos := "law.go:133", after := #[{ on := 2, ground := Ground.data }, { on := 1, ground := Ground.guard }], guard := some (1, true) } : Oper)) (v := ?_) rfl (by kernel_rfl) (by kernel_rfl) (by kernel_rfl) (fun _ _ _ h => h) (Or.inl ⟨by rfl, ?_⟩) (by assumption) ?_
          rotate_left
          · (intro wz hSw; (try dsimp only at hSw); go_simp; try with_reducible rfl)
          simp only [Act.put, List.setIfInBounds_toArray, List.set_cons_zero, List.set_cons_succ]
          refine wpAnyH_take (i := 4) (oi := ({ dst := some 79, op := Op.pick (Operand.tmp 76) (Operand.tmp 78) (Operand.const (Value.bool false)), type := 4, pos := "law.go:133", after := #[{ on := 1, ground := Ground.data }, { on := 3, ground := Ground.data }], guard := none } : Oper)) (v := ?_) rfl (by kernel_rfl) (by kernel_rfl) (by kernel_rfl) (fun _ _ _ h => h) (Or.inl ⟨by rfl, ?_⟩) (by assumption) ?_
          rotate_left
          · (intro wz hSw; (try dsimp only at hSw); go_simp; try with_reducible rfl)
          simp only [Act.put, List.setIfInBounds_toArray, List.set_cons_zero, List.set_cons_succ]
          refine wpAnyH_take (i := 5) (oi := ({ dst := some 80, op := Op.move (Operand.tmp 79), type := 4, pos := "law.go:133", after := #[{ on := 4, ground := Ground.data }, { on := 1, ground := Ground.chain }], guard := none } : Oper)) (v := ?_) rfl (by kernel_rfl) (by kernel_rfl) (by kernel_rfl) (fun _ _ _ h => h) (Or.inl ⟨by rfl, ?_⟩) (by assumption) ?_
          rotate_left
          · (intro wz hSw; (try dsimp only at hSw); go_simp; try with_reducible rfl)
          simp only [Act.put, List.setIfInBounds_toArray, List.set_cons_zero, List.set_cons_succ]
          refine wpAnyH_take (i := 6) (oi := ({ dst := some 81, op := Op.move (Operand.tmp 10), type := 24, pos := "law.go:133", after := #[{ on := 5, ground := Ground.guard }], guard := some (5, true) } : Oper)) (v := ?_) rfl (by kernel_rfl) (by kernel_rfl) (by kernel_rfl) (fun _ _ _ h => h) (Or.inl ⟨by rfl, ?_⟩) (by assumption) ?_
          rotate_left
          · (intro wz hSw; (try dsimp only at hSw); go_simp; try with_reducible rfl)
          simp only [Act.put, List.setIfInBounds_toArray, List.set_cons_zero, List.set_cons_succ]
          refine wpAnyH_take (i := 9) (oi := ({ dst := some 84, op := Op.move (Operand.tmp 11), type := 24, pos := "law.go:133", after := #[{ on := 5, ground := Ground.guard }], guard := some (5, true) } : Oper)) (v := ?_) rfl (by kernel_rfl) (by kernel_rfl) (by kernel_rfl) (fun _ _ _ h => h) (Or.inl ⟨by rfl, ?_⟩) (by assumption) ?_
          rotate_left
          · (intro wz hSw; (try dsimp only at hSw); go_simp; try with_reducible rfl)
          simp only [Act.put, List.setIfInBounds_toArray, List.set_cons_zero, List.set_cons_succ]
          refine wpAnyH_take (i := 13) (oi := ({ dst := some 88, op := Op.move (Operand.tmp 8), type := 22, pos := "law.go:133", after := #[{ on := 5, ground := Ground.guard }], guard := some (5, true) } : Oper)) (v := ?_) rfl (by kernel_rfl) (by kernel_rfl) (by kernel_rfl) (fun _ _ _ h => h) (Or.inl ⟨by rfl, ?_⟩) (by assumption) ?_
          rotate_left
          · (intro wz hSw; (try dsimp only at hSw); go_simp; try with_reducible rfl)
          simp only [Act.put, List.setIfInBounds_toArray, List.set_cons_zero, List.set_cons_succ]
          refine wpAnyH_take (i := 14) (oi := ({ dst := some 89, op := Op.move (Operand.tmp 9), type := 22, pos := "law.go:133", after := #[{ on := 5, ground := Ground.guard }], guard := some (5, true) } : Oper)) (v := ?_) rfl (by kernel_rfl) (by kernel_rfl) (by kernel_rfl) (fun _ _ _ h => h) (Or.inl ⟨by rfl, ?_⟩) (by assumption) ?_
          rotate_left
          · (intro wz hSw; (try dsimp only at hSw); go_simp; try with_reducible rfl)
          simp only [Act.put, List.setIfInBounds_toArray, List.set_cons_zero, List.set_cons_succ]
          refine wpAnyH_ready (rs := [7]) (by kernel_rfl) (by simp) ?_
          refine AllReadyH.cons (o := ({ dst := some 82, op := Op.call { callee := Callee.value (Operand.func 14), args := #[Operand.tmp 81], argTypes := #[24] }, type := 33, pos := "law.go:133", after := #[{ on := 6, ground := Ground.data }, { on := 5, ground := Ground.chain }, { on := 5, ground := Ground.guard }], guard := some (5, true) } : Oper)) rfl (fun K hK => ?_) AllReadyH.nil
          · go_simp
            go_at_call 14
            refine (bytesK A r5 PX w1 (TX.out.below hH1) (by omega)).mono ?_
            rintro e w2 ⟨bv, rfl, hb2, sbv⟩
            have hH2 : Below wr.heap.size wr w2 := hH1.trans (hb2.mono hH1.size)
            have hv2 : Below w2.heap.size w2 w2 := Below.refl _ _
            (try dsimp only)
            refine hK.out _ _ hH2 (fun hS2 => ?_)
            clear hK K hb2
            (try simp only [Act.put, List.setIfInBounds_toArray, List.set_cons_zero, List.set_cons_succ])
            refine wpAnyH_ready (rs := [8, 10]) (by kernel_rfl) (by simp) ?_
            refine AllReadyH.cons (o := ({ dst := some 83, op := Op.convert 33 9 (Operand.tmp 82), type := 9, pos := "law.go:133", after := #[{ on := 7, ground := Ground.data }, { on := 5, ground := Ground.guard }], guard := some (5, true) } : Oper)) rfl (fun K hK => ?_) (AllReadyH.cons (o := ({ dst := some 85, op := Op.call { callee := Callee.value (Operand.func 14), args := #[Operand.tmp 84], argTypes := #[24] }, type := 33, pos := "law.go:133", after := #[{ on := 9, ground := Ground.data }, { on := 7, ground := Ground.chain }, { on := 5, ground := Ground.guard }], guard := some (5, true) } : Oper)) rfl (fun K hK => ?_) AllReadyH.nil)
            · have cvt := sbv _ hv2
              go_simp
              (try dsimp only)
              refine hK.out _ _ hH2 (fun hSc8 => ?_)
              clear hK K cvt
              (try simp only [Act.put, List.setIfInBounds_toArray, List.set_cons_zero, List.set_cons_succ])
              refine wpAnyH_ready (rs := [10]) (by kernel_rfl) (by simp) ?_
              refine AllReadyH.cons (o := ({ dst := some 85, op := Op.call { callee := Callee.value (Operand.func 14), args := #[Operand.tmp 84], argTypes := #[24] }, type := 33, pos := "law.go:133", after := #[{ on := 9, ground := Ground.data }, { on := 7, ground := Ground.chain }, { on := 5, ground := Ground.guard }], guard := some (5, true) } : Oper)) rfl (fun K hK => ?_) AllReadyH.nil
              · go_simp
                go_at_call 14
                refine (bytesK B r6 PY w2 (TY.out.below hH2) (by omega)).mono ?_
                rintro e w3 ⟨bw, rfl, hb3, sbw⟩
                have hH3 : Below wr.heap.size wr w3 := hH2.trans (hb3.mono hH2.size)
                have hv3 := hv2.trans (hb3.mono hv2.size)
                have hw3 : Below w3.heap.size w3 w3 := Below.refl _ _
                (try dsimp only)
                refine hK.out _ _ hH3 (fun hS3 => ?_)
                clear hK K hb3
                (try simp only [Act.put, List.setIfInBounds_toArray, List.set_cons_zero, List.set_cons_succ])
                refine wpAnyH_ready (rs := [11, 15]) (by kernel_rfl) (by simp) ?_
                refine AllReadyH.cons (o := ({ dst := some 86, op := Op.convert 33 9 (Operand.tmp 85), type := 9, pos := "law.go:133", after := #[{ on := 10, ground := Ground.data }, { on := 5, ground := Ground.guard }], guard := some (5, true) } : Oper)) rfl (fun K hK => ?_) (AllReadyH.cons (o := ({ dst := some 90, op := Op.call { callee := Callee.value (Operand.func 12), args := #[Operand.tmp 88, Operand.tmp 89], argTypes := #[22, 22] }, type := 4, pos := "law.go:133", after := #[{ on := 13, ground := Ground.data }, { on := 14, ground := Ground.data }, { on := 10, ground := Ground.chain }, { on := 5, ground := Ground.guard }], guard := some (5, true) } : Oper)) rfl (fun K hK => ?_) AllReadyH.nil)
                · have cvt := sbw _ hw3
                  go_simp
                  (try dsimp only)
                  refine hK.out _ _ hH3 (fun hSc11 => ?_)
                  clear hK K cvt
                  (try simp only [Act.put, List.setIfInBounds_toArray, List.set_cons_zero, List.set_cons_succ])
                  refine wpAnyH_take (i := 12) (oi := ({ dst := some 87, op := Op.binOp BinOp.eql 9 (Operand.tmp 83) (Operand.tmp 86) 9, type := 4, pos := "law.go:133", after := #[{ on := 8, ground := Ground.data }, { on := 11, ground := Ground.data }, { on := 5, ground := Ground.guard }], guard := some (5, true) } : Oper)) (v := ?_) rfl (by kernel_rfl) (by kernel_rfl) (by kernel_rfl) (fun _ _ _ h => h) (Or.inl ⟨by rfl, ?_⟩) (by assumption) ?_
                  rotate_left
                  · (intro wz hSw; (try dsimp only at hSw); go_simp; try with_reducible rfl)
                  simp only [Act.put, List.setIfInBounds_toArray, List.set_cons_zero, List.set_cons_succ]
                  refine wpAnyH_ready (rs := [15]) (by kernel_rfl) (by simp) ?_
                  refine AllReadyH.cons (o := ({ dst := some 90, op := Op.call { callee := Callee.value (Operand.func 12), args := #[Operand.tmp 88, Operand.tmp 89], argTypes := #[22, 22] }, type := 4, pos := "law.go:133", after := #[{ on := 13, ground := Ground.data }, { on := 14, ground := Ground.data }, { on := 10, ground := Ground.chain }, { on := 5, ground := Ground.guard }], guard := some (5, true) } : Oper)) rfl (fun K hK => ?_) AllReadyH.nil
                  · go_simp
                    go_at_call 12
                    refine (rsame_any xs ys a1 b2 c1 d2 w3 (RA.out.keep' hH3) (RB.out.keep' hH3) (by omega) (by omega)).mono ?_
                    rintro e w4 ⟨⟨j4, g4⟩, rfl⟩
                    have hb4 : Below w3.heap.size w3 w4 := by rw [g4]; exact below_drewN' _ _ _
                    have hH4 : Below wr.heap.size wr w4 := hH3.trans (hb4.mono hH3.size)
                    have hv4 := hv3.trans (hb4.mono hv3.size)
                    have hw4 := hw3.trans (hb4.mono hw3.size)
                    rw [HSAME.out]
                    (try dsimp only)
                    refine hK.out _ _ hH4 (fun hS4 => ?_)
                    clear hK K hb4 g4
                    (try simp only [Act.put, List.setIfInBounds_toArray, List.set_cons_zero, List.set_cons_succ])
                    refine wpAnyH_take (i := 16) (oi := ({ dst := some 91, op := Op.binOp BinOp.eql 4 (Operand.tmp 87) (Operand.tmp 90) 4, type := 4, pos := "law.go:133", after := #[{ on := 12, ground := Ground.data }, { on := 15, ground := Ground.data }, { on := 5, ground := Ground.guard }], guard := some (5, true) } : Oper)) (v := ?_) rfl (by kernel_rfl) (by kernel_rfl) (by kernel_rfl) (fun _ _ _ h => h) (Or.inl ⟨by rfl, ?_⟩) (by assumption) ?_
                    rotate_left
                    · (intro wz hSw; (try dsimp only at hSw); go_simp; try with_reducible rfl)
                    simp only [Act.put, List.setIfInBounds_toArray, List.set_cons_zero, List.set_cons_succ]
                    refine wpAnyH_take (i := 17) (oi := ({ dst := some 92, op := Op.pick (Operand.tmp 80) (Operand.tmp 91) (Operand.const (Value.bool false)), type := 4, pos := "law.go:133", after := #[{ on := 5, ground := Ground.data }, { on := 16, ground := Ground.data }], guard := none } : Oper)) (v := ?_) rfl (by kernel_rfl) (by kernel_rfl) (by kernel_rfl) (fun _ _ _ h => h) (Or.inl ⟨by rfl, ?_⟩) (by assumption) ?_
                    rotate_left
                    · (intro wz hSw; (try dsimp only at hSw); go_simp; try with_reducible rfl)
                    simp only [Act.put, List.setIfInBounds_toArray, List.set_cons_zero, List.set_cons_succ]
                    refine wpAnyH_take (i := 18) (oi := ({ dst := some 6, op := Op.assign (Operand.tmp 92), type := 4, pos := "law.go:133", after := #[{ on := 17, ground := Ground.data }, { on := 15, ground := Ground.chain }, { on := 0, ground := Ground.phase }, { on := 1, ground := Ground.phase }, { on := 2, ground := Ground.phase }, { on := 3, ground := Ground.phase }, { on := 4, ground := Ground.phase }, { on := 5, ground := Ground.phase }, { on := 6, ground := Ground.phase }, { on := 7, ground := Ground.phase }, { on := 8, ground := Ground.phase }, { on := 9, ground := Ground.phase }, { on := 10, ground := Ground.phase }, { on := 11, ground := Ground.phase }, { on := 12, ground := Ground.phase }, { on := 13, ground := Ground.phase }, { on := 14, ground := Ground.phase }, { on := 15, ground := Ground.phase }, { on := 16, ground := Ground.phase }, { on := 17, ground := Ground.phase }], guard := none } : Oper)) (v := ?_) rfl (by kernel_rfl) (by kernel_rfl) (by kernel_rfl) (fun _ _ _ h => h) (Or.inl ⟨by rfl, ?_⟩) (by assumption) ?_
                    rotate_left
                    · (intro wz hSw; (try dsimp only at hSw); go_simp; try with_reducible rfl)
                    simp only [Act.put, List.setIfInBounds_toArray, List.set_cons_zero, List.set_cons_succ]
                    refine wpAnyH_done (by kernel_rfl) ?_ _
                    go_wp2
                    go_ret
                    exact ⟨by simp [HNE], BW.out.trans (hH4.mono BW.out.size)⟩
                · go_simp
                  go_at_call 12
                  refine (rsame_any xs ys a1 b2 c1 d2 w3 (RA.out.keep' hH3) (RB.out.keep' hH3) (by omega) (by omega)).mono ?_
                  rintro e w4 ⟨⟨j4, g4⟩, rfl⟩
                  have hb4 : Below w3.heap.size w3 w4 := by rw [g4]; exact below_drewN' _ _ _
                  have hH4 : Below wr.heap.size wr w4 := hH3.trans (hb4.mono hH3.size)
                  have hv4 := hv3.trans (hb4.mono hv3.size)
                  have hw4 := hw3.trans (hb4.mono hw3.size)
                  rw [HSAME.out]
                  (try dsimp only)
                  refine hK.out _ _ hH4 (fun hS4 => ?_)
                  clear hK K hb4 g4
                  (try simp only [Act.put, List.setIfInBounds_toArray, List.set_cons_zero, List.set_cons_succ])
                  refine wpAnyH_ready (rs := [11]) (by kernel_rfl) (by simp) ?_
                  refine AllReadyH.cons (o := ({ dst := some 86, op := Op.convert 33 9 (Operand.tmp 85), type := 9, pos := "law.go:133", after := #[{ on := 10, ground := Ground.data }, { on := 5, ground := Ground.guard }], guard := some (5, true) } : Oper)) rfl (fun K hK => ?_) AllReadyH.nil
                  · have cvt := sbw _ hw4
                    go_simp
                    (try dsimp only)
                    refine hK.out _ _ hH4 (fun hSc11 => ?_)
                    clear hK K cvt
                    (try simp only [Act.put, List.setIfInBounds_toArray, List.set_cons_zero, List.set_cons_succ])
                    refine wpAnyH_take (i := 12) (oi := ({ dst := some 87, op := Op.binOp BinOp.eql 9 (Operand.tmp 83) (Operand.tmp 86) 9, type := 4, pos := "law.go:133", after := #[{ on := 8, ground := Ground.data }, { on := 11, ground := Ground.data }, { on := 5, ground := Ground.guard }], guard := some (5, true) } : Oper)) (v := ?_) rfl (by kernel_rfl) (by kernel_rfl) (by kernel_rfl) (fun _ _ _ h => h) (Or.inl ⟨by rfl, ?_⟩) (by assumption) ?_
                    rotate_left
                    · (intro wz hSw; (try dsimp only at hSw); go_simp; try with_reducible rfl)
                    simp only [Act.put, List.setIfInBounds_toArray, List.set_cons_zero, List.set_cons_succ]
                    refine wpAnyH_take (i := 16) (oi := ({ dst := some 91, op := Op.binOp BinOp.eql 4 (Operand.tmp 87) (Operand.tmp 90) 4, type := 4, pos := "law.go:133", after := #[{ on := 12, ground := Ground.data }, { on := 15, ground := Ground.data }, { on := 5, ground := Ground.guard }], guard := some (5, true) } : Oper)) (v := ?_) rfl (by kernel_rfl) (by kernel_rfl) (by kernel_rfl) (fun _ _ _ h => h) (Or.inl ⟨by rfl, ?_⟩) (by assumption) ?_
                    rotate_left
                    · (intro wz hSw; (try dsimp only at hSw); go_simp; try with_reducible rfl)
                    simp only [Act.put, List.setIfInBounds_toArray, List.set_cons_zero, List.set_cons_succ]
                    refine wpAnyH_take (i := 17) (oi := ({ dst := some 92, op := Op.pick (Operand.tmp 80) (Operand.tmp 91) (Operand.const (Value.bool false)), type := 4, pos := "law.go:133", after := #[{ on := 5, ground := Ground.data }, { on := 16, ground := Ground.data }], guard := none } : Oper)) (v := ?_) rfl (by kernel_rfl) (by kernel_rfl) (by kernel_rfl) (fun _ _ _ h => h) (Or.inl ⟨by rfl, ?_⟩) (by assumption) ?_
                    rotate_left
                    · (intro wz hSw; (try dsimp only at hSw); go_simp; try with_reducible rfl)
                    simp only [Act.put, List.setIfInBounds_toArray, List.set_cons_zero, List.set_cons_succ]
                    refine wpAnyH_take (i := 18) (oi := ({ dst := some 6, op := Op.assign (Operand.tmp 92), type := 4, pos := "law.go:133", after := #[{ on := 17, ground := Ground.data }, { on := 15, ground := Ground.chain }, { on := 0, ground := Ground.phase }, { on := 1, ground := Ground.phase }, { on := 2, ground := Ground.phase }, { on := 3, ground := Ground.phase }, { on := 4, ground := Ground.phase }, { on := 5, ground := Ground.phase }, { on := 6, ground := Ground.phase }, { on := 7, ground := Ground.phase }, { on := 8, ground := Ground.phase }, { on := 9, ground := Ground.phase }, { on := 10, ground := Ground.phase }, { on := 11, ground := Ground.phase }, { on := 12, ground := Ground.phase }, { on := 13, ground := Ground.phase }, { on := 14, ground := Ground.phase }, { on := 15, ground := Ground.phase }, { on := 16, ground := Ground.phase }, { on := 17, ground := Ground.phase }], guard := none } : Oper)) (v := ?_) rfl (by kernel_rfl) (by kernel_rfl) (by kernel_rfl) (fun _ _ _ h => h) (Or.inl ⟨by rfl, ?_⟩) (by assumption) ?_
                    rotate_left
                    · (intro wz hSw; (try dsimp only at hSw); go_simp; try with_reducible rfl)
                    simp only [Act.put, List.setIfInBounds_toArray, List.set_cons_zero, List.set_cons_succ]
                    refine wpAnyH_done (by kernel_rfl) ?_ _
                    go_wp2
                    go_ret
                    exact ⟨by simp [HNE], BW.out.trans (hH4.mono BW.out.size)⟩
            · go_simp
              go_at_call 14
              refine (bytesK B r6 PY w2 (TY.out.below hH2) (by omega)).mono ?_
              rintro e w3 ⟨bw, rfl, hb3, sbw⟩
              have hH3 : Below wr.heap.size wr w3 := hH2.trans (hb3.mono hH2.size)
              have hv3 := hv2.trans (hb3.mono hv2.size)
              have hw3 : Below w3.heap.size w3 w3 := Below.refl _ _
              (try dsimp only)
              refine hK.out _ _ hH3 (fun hS3 => ?_)
              clear hK K hb3
              (try simp only [Act.put, List.setIfInBounds_toArray, List.set_cons_zero, List.set_cons_succ])
              refine wpAnyH_ready (rs := [8, 11, 15]) (by kernel_rfl) (by simp) ?_
              refine AllReadyH.cons (o := ({ dst := some 83, op := Op.convert 33 9 (Operand.tmp 82), type := 9, pos := "law.go:133", after := #[{ on := 7, ground := Ground.data }, { on := 5, ground := Ground.guard }], guard := some (5, true) } : Oper)) rfl (fun K hK => ?_) (AllReadyH.cons (o := ({ dst := some 86, op := Op.convert 33 9 (Operand.tmp 85), type := 9, pos := "law.go:133", after := #[{ on := 10, ground := Ground.data }, { on := 5, ground := Ground.guard }], guard := some (5, true) } : Oper)) rfl (fun K hK => ?_) (AllReadyH.cons (o := ({ dst := some 90, op := Op.call { callee := Callee.value (Operand.func 12), args := #[Operand.tmp 88, Operand.tmp 89], argTypes := #[22, 22] }, type := 4, pos := "law.go:133", after := #[{ on := 13, ground := Ground.data }, { on := 14, ground := Ground.data }, { on := 10, ground := Ground.chain }, { on := 5, ground := Ground.guard }], guard := some (5, true) } : Oper)) rfl (fun K hK => ?_) AllReadyH.nil))
              · have cvt := sbv _ hv3
                go_simp
                (try dsimp only)
                refine hK.out _ _ hH3 (fun hSc8 => ?_)
                clear hK K cvt
                (try simp only [Act.put, List.setIfInBounds_toArray, List.set_cons_zero, List.set_cons_succ])
                refine wpAnyH_ready (rs := [11, 15]) (by kernel_rfl) (by simp) ?_
                refine AllReadyH.cons (o := ({ dst := some 86, op := Op.convert 33 9 (Operand.tmp 85), type := 9, pos := "law.go:133", after := #[{ on := 10, ground := Ground.data }, { on := 5, ground := Ground.guard }], guard := some (5, true) } : Oper)) rfl (fun K hK => ?_) (AllReadyH.cons (o := ({ dst := some 90, op := Op.call { callee := Callee.value (Operand.func 12), args := #[Operand.tmp 88, Operand.tmp 89], argTypes := #[22, 22] }, type := 4, pos := "law.go:133", after := #[{ on := 13, ground := Ground.data }, { on := 14, ground := Ground.data }, { on := 10, ground := Ground.chain }, { on := 5, ground := Ground.guard }], guard := some (5, true) } : Oper)) rfl (fun K hK => ?_) AllReadyH.nil)
                · have cvt := sbw _ hw3
                  go_simp
                  (try dsimp only)
                  refine hK.out _ _ hH3 (fun hSc11 => ?_)
                  clear hK K cvt
                  (try simp only [Act.put, List.setIfInBounds_toArray, List.set_cons_zero, List.set_cons_succ])
                  refine wpAnyH_take (i := 12) (oi := ({ dst := some 87, op := Op.binOp BinOp.eql 9 (Operand.tmp 83) (Operand.tmp 86) 9, type := 4, pos := "law.go:133", after := #[{ on := 8, ground := Ground.data }, { on := 11, ground := Ground.data }, { on := 5, ground := Ground.guard }], guard := some (5, true) } : Oper)) (v := ?_) rfl (by kernel_rfl) (by kernel_rfl) (by kernel_rfl) (fun _ _ _ h => h) (Or.inl ⟨by rfl, ?_⟩) (by assumption) ?_
                  rotate_left
                  · (intro wz hSw; (try dsimp only at hSw); go_simp; try with_reducible rfl)
                  simp only [Act.put, List.setIfInBounds_toArray, List.set_cons_zero, List.set_cons_succ]
                  refine wpAnyH_ready (rs := [15]) (by kernel_rfl) (by simp) ?_
                  refine AllReadyH.cons (o := ({ dst := some 90, op := Op.call { callee := Callee.value (Operand.func 12), args := #[Operand.tmp 88, Operand.tmp 89], argTypes := #[22, 22] }, type := 4, pos := "law.go:133", after := #[{ on := 13, ground := Ground.data }, { on := 14, ground := Ground.data }, { on := 10, ground := Ground.chain }, { on := 5, ground := Ground.guard }], guard := some (5, true) } : Oper)) rfl (fun K hK => ?_) AllReadyH.nil
                  · go_simp
                    go_at_call 12
                    refine (rsame_any xs ys a1 b2 c1 d2 w3 (RA.out.keep' hH3) (RB.out.keep' hH3) (by omega) (by omega)).mono ?_
                    rintro e w4 ⟨⟨j4, g4⟩, rfl⟩
                    have hb4 : Below w3.heap.size w3 w4 := by rw [g4]; exact below_drewN' _ _ _
                    have hH4 : Below wr.heap.size wr w4 := hH3.trans (hb4.mono hH3.size)
                    have hv4 := hv3.trans (hb4.mono hv3.size)
                    have hw4 := hw3.trans (hb4.mono hw3.size)
                    rw [HSAME.out]
                    (try dsimp only)
                    refine hK.out _ _ hH4 (fun hS4 => ?_)
                    clear hK K hb4 g4
                    (try simp only [Act.put, List.setIfInBounds_toArray, List.set_cons_zero, List.set_cons_succ])
                    refine wpAnyH_take (i := 16) (oi := ({ dst := some 91, op := Op.binOp BinOp.eql 4 (Operand.tmp 87) (Operand.tmp 90) 4, type := 4, pos := "law.go:133", after := #[{ on := 12, ground := Ground.data }, { on := 15, ground := Ground.data }, { on := 5, ground := Ground.guard }], guard := some (5, true) } : Oper)) (v := ?_) rfl (by kernel_rfl) (by kernel_rfl) (by kernel_rfl) (fun _ _ _ h => h) (Or.inl ⟨by rfl, ?_⟩) (by assumption) ?_
                    rotate_left
                    · (intro wz hSw; (try dsimp only at hSw); go_simp; try with_reducible rfl)
                    simp only [Act.put, List.setIfInBounds_toArray, List.set_cons_zero, List.set_cons_succ]
                    refine wpAnyH_take (i := 17) (oi := ({ dst := some 92, op := Op.pick (Operand.tmp 80) (Operand.tmp 91) (Operand.const (Value.bool false)), type := 4, pos := "law.go:133", after := #[{ on := 5, ground := Ground.data }, { on := 16, ground := Ground.data }], guard := none } : Oper)) (v := ?_) rfl (by kernel_rfl) (by kernel_rfl) (by kernel_rfl) (fun _ _ _ h => h) (Or.inl ⟨by rfl, ?_⟩) (by assumption) ?_
                    rotate_left
                    · (intro wz hSw; (try dsimp only at hSw); go_simp; try with_reducible rfl)
                    simp only [Act.put, List.setIfInBounds_toArray, List.set_cons_zero, List.set_cons_succ]
                    refine wpAnyH_take (i := 18) (oi := ({ dst := some 6, op := Op.assign (Operand.tmp 92), type := 4, pos := "law.go:133", after := #[{ on := 17, ground := Ground.data }, { on := 15, ground := Ground.chain }, { on := 0, ground := Ground.phase }, { on := 1, ground := Ground.phase }, { on := 2, ground := Ground.phase }, { on := 3, ground := Ground.phase }, { on := 4, ground := Ground.phase }, { on := 5, ground := Ground.phase }, { on := 6, ground := Ground.phase }, { on := 7, ground := Ground.phase }, { on := 8, ground := Ground.phase }, { on := 9, ground := Ground.phase }, { on := 10, ground := Ground.phase }, { on := 11, ground := Ground.phase }, { on := 12, ground := Ground.phase }, { on := 13, ground := Ground.phase }, { on := 14, ground := Ground.phase }, { on := 15, ground := Ground.phase }, { on := 16, ground := Ground.phase }, { on := 17, ground := Ground.phase }], guard := none } : Oper)) (v := ?_) rfl (by kernel_rfl) (by kernel_rfl) (by kernel_rfl) (fun _ _ _ h => h) (Or.inl ⟨by rfl, ?_⟩) (by assumption) ?_
                    rotate_left
                    · (intro wz hSw; (try dsimp only at hSw); go_simp; try with_reducible rfl)
                    simp only [Act.put, List.setIfInBounds_toArray, List.set_cons_zero, List.set_cons_succ]
                    refine wpAnyH_done (by kernel_rfl) ?_ _
                    go_wp2
                    go_ret
                    exact ⟨by simp [HNE], BW.out.trans (hH4.mono BW.out.size)⟩
                · go_simp
                  go_at_call 12
                  refine (rsame_any xs ys a1 b2 c1 d2 w3 (RA.out.keep' hH3) (RB.out.keep' hH3) (by omega) (by omega)).mono ?_
                  rintro e w4 ⟨⟨j4, g4⟩, rfl⟩
                  have hb4 : Below w3.heap.size w3 w4 := by rw [g4]; exact below_drewN' _ _ _
                  have hH4 : Below wr.heap.size wr w4 := hH3.trans (hb4.mono hH3.size)
                  have hv4 := hv3.trans (hb4.mono hv3.size)
                  have hw4 := hw3.trans (hb4.mono hw3.size)
                  rw [HSAME.out]
                  (try dsimp only)
                  refine hK.out _ _ hH4 (fun hS4 => ?_)
                  clear hK K hb4 g4
                  (try simp only [Act.put, List.setIfInBounds_toArray, List.set_cons_zero, List.set_cons_succ])
                  refine wpAnyH_ready (rs := [11]) (by kernel_rfl) (by simp) ?_
                  refine AllReadyH.cons (o := ({ dst := some 86, op := Op.convert 33 9 (Operand.tmp 85), type := 9, pos := "law.go:133", after := #[{ on := 10, ground := Ground.data }, { on := 5, ground := Ground.guard }], guard := some (5, true) } : Oper)) rfl (fun K hK => ?_) AllReadyH.nil
                  · have cvt := sbw _ hw4
                    go_simp
                    (try dsimp only)
                    refine hK.out _ _ hH4 (fun hSc11 => ?_)
                    clear hK K cvt
                    (try simp only [Act.put, List.setIfInBounds_toArray, List.set_cons_zero, List.set_cons_succ])
                    refine wpAnyH_take (i := 12) (oi := ({ dst := some 87, op := Op.binOp BinOp.eql 9 (Operand.tmp 83) (Operand.tmp 86) 9, type := 4, pos := "law.go:133", after := #[{ on := 8, ground := Ground.data }, { on := 11, ground := Ground.data }, { on := 5, ground := Ground.guard }], guard := some (5, true) } : Oper)) (v := ?_) rfl (by kernel_rfl) (by kernel_rfl) (by kernel_rfl) (fun _ _ _ h => h) (Or.inl ⟨by rfl, ?_⟩) (by assumption) ?_
                    rotate_left
                    · (intro wz hSw; (try dsimp only at hSw); go_simp; try with_reducible rfl)
                    simp only [Act.put, List.setIfInBounds_toArray, List.set_cons_zero, List.set_cons_succ]
                    refine wpAnyH_take (i := 16) (oi := ({ dst := some 91, op := Op.binOp BinOp.eql 4 (Operand.tmp 87) (Operand.tmp 90) 4, type := 4, pos := "law.go:133", after := #[{ on := 12, ground := Ground.data }, { on := 15, ground := Ground.data }, { on := 5, ground := Ground.guard }], guard := some (5, true) } : Oper)) (v := ?_) rfl (by kernel_rfl) (by kernel_rfl) (by kernel_rfl) (fun _ _ _ h => h) (Or.inl ⟨by rfl, ?_⟩) (by assumption) ?_
                    rotate_left
                    · (intro wz hSw; (try dsimp only at hSw); go_simp; try with_reducible rfl)
                    simp only [Act.put, List.setIfInBounds_toArray, List.set_cons_zero, List.set_cons_succ]
                    refine wpAnyH_take (i := 17) (oi := ({ dst := some 92, op := Op.pick (Operand.tmp 80) (Operand.tmp 91) (Operand.const (Value.bool false)), type := 4, pos := "law.go:133", after := #[{ on := 5, ground := Ground.data }, { on := 16, ground := Ground.data }], guard := none } : Oper)) (v := ?_) rfl (by kernel_rfl) (by kernel_rfl) (by kernel_rfl) (fun _ _ _ h => h) (Or.inl ⟨by rfl, ?_⟩) (by assumption) ?_
                    rotate_left
                    · (intro wz hSw; (try dsimp only at hSw); go_simp; try with_reducible rfl)
                    simp only [Act.put, List.setIfInBounds_toArray, List.set_cons_zero, List.set_cons_succ]
                    refine wpAnyH_take (i := 18) (oi := ({ dst := some 6, op := Op.assign (Operand.tmp 92), type := 4, pos := "law.go:133", after := #[{ on := 17, ground := Ground.data }, { on := 15, ground := Ground.chain }, { on := 0, ground := Ground.phase }, { on := 1, ground := Ground.phase }, { on := 2, ground := Ground.phase }, { on := 3, ground := Ground.phase }, { on := 4, ground := Ground.phase }, { on := 5, ground := Ground.phase }, { on := 6, ground := Ground.phase }, { on := 7, ground := Ground.phase }, { on := 8, ground := Ground.phase }, { on := 9, ground := Ground.phase }, { on := 10, ground := Ground.phase }, { on := 11, ground := Ground.phase }, { on := 12, ground := Ground.phase }, { on := 13, ground := Ground.phase }, { on := 14, ground := Ground.phase }, { on := 15, ground := Ground.phase }, { on := 16, ground := Ground.phase }, { on := 17, ground := Ground.phase }], guard := none } : Oper)) (v := ?_) rfl (by kernel_rfl) (by kernel_rfl) (by kernel_rfl) (fun _ _ _ h => h) (Or.inl ⟨by rfl, ?_⟩) (by assumption) ?_
                    rotate_left
                    · (intro wz hSw; (try dsimp only at hSw); go_simp; try with_reducible rfl)
                    simp only [Act.put, List.setIfInBounds_toArray, List.set_cons_zero, List.set_cons_succ]
                    refine wpAnyH_done (by kernel_rfl) ?_ _
                    go_wp2
                    go_ret
                    exact ⟨by simp [HNE], BW.out.trans (hH4.mono BW.out.size)⟩
              · have cvt := sbw _ hw3
                go_simp
                (try dsimp only)
                refine hK.out _ _ hH3 (fun hSc11 => ?_)
                clear hK K cvt
                (try simp only [Act.put, List.setIfInBounds_toArray, List.set_cons_zero, List.set_cons_succ])
                refine wpAnyH_ready (rs := [8, 15]) (by kernel_rfl) (by simp) ?_
                refine AllReadyH.cons (o := ({ dst := some 83, op := Op.convert 33 9 (Operand.tmp 82), type := 9, pos := "law.go:133", after := #[{ on := 7, ground := Ground.data }, { on := 5, ground := Ground.guard }], guard := some (5, true) } : Oper)) rfl (fun K hK => ?_) (AllReadyH.cons (o := ({ dst := some 90, op := Op.call { callee := Callee.value (Operand.func 12), args := #[Operand.tmp 88, Operand.tmp 89], argTypes := #[22, 22] }, type := 4, pos := "law.go:133", after := #[{ on := 13, ground := Ground.data }, { on := 14, ground := Ground.data }, { on := 10, ground := Ground.chain }, { on := 5, ground := Ground.guard }], guard := some (5, true) } : Oper)) rfl (fun K hK => ?_) AllReadyH.nil)
                · have cvt := sbv _ hv3
                  go_simp
                  (try dsimp only)
                  refine hK.out _ _ hH3 (fun hSc8 => ?_)
                  clear hK K cvt
                  (try simp only [Act.put, List.setIfInBounds_toArray, List.set_cons_zero, List.set_cons_succ])
                  refine wpAnyH_take (i := 12) (oi := ({ dst := some 87, op := Op.binOp BinOp.eql 9 (Operand.tmp 83) (Operand.tmp 86) 9, type := 4, pos := "law.go:133", after := #[{ on := 8, ground := Ground.data }, { on := 11, ground := Ground.data }, { on := 5, ground := Ground.guard }], guard := some (5, true) } : Oper)) (v := ?_) rfl (by kernel_rfl) (by kernel_rfl) (by kernel_rfl) (fun _ _ _ h => h) (Or.inl ⟨by rfl, ?_⟩) (by assumption) ?_
                  rotate_left
                  · (intro wz hSw; (try dsimp only at hSw); go_simp; try with_reducible rfl)
                  simp only [Act.put, List.setIfInBounds_toArray, List.set_cons_zero, List.set_cons_succ]
                  refine wpAnyH_ready (rs := [15]) (by kernel_rfl) (by simp) ?_
                  refine AllReadyH.cons (o := ({ dst := some 90, op := Op.call { callee := Callee.value (Operand.func 12), args := #[Operand.tmp 88, Operand.tmp 89], argTypes := #[22, 22] }, type := 4, pos := "law.go:133", after := #[{ on := 13, ground := Ground.data }, { on := 14, ground := Ground.data }, { on := 10, ground := Ground.chain }, { on := 5, ground := Ground.guard }], guard := some (5, true) } : Oper)) rfl (fun K hK => ?_) AllReadyH.nil
                  · go_simp
                    go_at_call 12
                    refine (rsame_any xs ys a1 b2 c1 d2 w3 (RA.out.keep' hH3) (RB.out.keep' hH3) (by omega) (by omega)).mono ?_
                    rintro e w4 ⟨⟨j4, g4⟩, rfl⟩
                    have hb4 : Below w3.heap.size w3 w4 := by rw [g4]; exact below_drewN' _ _ _
                    have hH4 : Below wr.heap.size wr w4 := hH3.trans (hb4.mono hH3.size)
                    have hv4 := hv3.trans (hb4.mono hv3.size)
                    have hw4 := hw3.trans (hb4.mono hw3.size)
                    rw [HSAME.out]
                    (try dsimp only)
                    refine hK.out _ _ hH4 (fun hS4 => ?_)
                    clear hK K hb4 g4
                    (try simp only [Act.put, List.setIfInBounds_toArray, List.set_cons_zero, List.set_cons_succ])
                    refine wpAnyH_take (i := 16) (oi := ({ dst := some 91, op := Op.binOp BinOp.eql 4 (Operand.tmp 87) (Operand.tmp 90) 4, type := 4, pos := "law.go:133", after := #[{ on := 12, ground := Ground.data }, { on := 15, ground := Ground.data }, { on := 5, ground := Ground.guard }], guard := some (5, true) } : Oper)) (v := ?_) rfl (by kernel_rfl) (by kernel_rfl) (by kernel_rfl) (fun _ _ _ h => h) (Or.inl ⟨by rfl, ?_⟩) (by assumption) ?_
                    rotate_left
                    · (intro wz hSw; (try dsimp only at hSw); go_simp; try with_reducible rfl)
                    simp only [Act.put, List.setIfInBounds_toArray, List.set_cons_zero, List.set_cons_succ]
                    refine wpAnyH_take (i := 17) (oi := ({ dst := some 92, op := Op.pick (Operand.tmp 80) (Operand.tmp 91) (Operand.const (Value.bool false)), type := 4, pos := "law.go:133", after := #[{ on := 5, ground := Ground.data }, { on := 16, ground := Ground.data }], guard := none } : Oper)) (v := ?_) rfl (by kernel_rfl) (by kernel_rfl) (by kernel_rfl) (fun _ _ _ h => h) (Or.inl ⟨by rfl, ?_⟩) (by assumption) ?_
                    rotate_left
                    · (intro wz hSw; (try dsimp only at hSw); go_simp; try with_reducible rfl)
                    simp only [Act.put, List.setIfInBounds_toArray, List.set_cons_zero, List.set_cons_succ]
                    refine wpAnyH_take (i := 18) (oi := ({ dst := some 6, op := Op.assign (Operand.tmp 92), type := 4, pos := "law.go:133", after := #[{ on := 17, ground := Ground.data }, { on := 15, ground := Ground.chain }, { on := 0, ground := Ground.phase }, { on := 1, ground := Ground.phase }, { on := 2, ground := Ground.phase }, { on := 3, ground := Ground.phase }, { on := 4, ground := Ground.phase }, { on := 5, ground := Ground.phase }, { on := 6, ground := Ground.phase }, { on := 7, ground := Ground.phase }, { on := 8, ground := Ground.phase }, { on := 9, ground := Ground.phase }, { on := 10, ground := Ground.phase }, { on := 11, ground := Ground.phase }, { on := 12, ground := Ground.phase }, { on := 13, ground := Ground.phase }, { on := 14, ground := Ground.phase }, { on := 15, ground := Ground.phase }, { on := 16, ground := Ground.phase }, { on := 17, ground := Ground.phase }], guard := none } : Oper)) (v := ?_) rfl (by kernel_rfl) (by kernel_rfl) (by kernel_rfl) (fun _ _ _ h => h) (Or.inl ⟨by rfl, ?_⟩) (by assumption) ?_
                    rotate_left
                    · (intro wz hSw; (try dsimp only at hSw); go_simp; try with_reducible rfl)
                    simp only [Act.put, List.setIfInBounds_toArray, List.set_cons_zero, List.set_cons_succ]
                    refine wpAnyH_done (by kernel_rfl) ?_ _
                    go_wp2
                    go_ret
                    exact ⟨by simp [HNE], BW.out.trans (hH4.mono BW.out.size)⟩
                · go_simp
                  go_at_call 12
                  refine (rsame_any xs ys a1 b2 c1 d2 w3 (RA.out.keep' hH3) (RB.out.keep' hH3) (by omega) (by omega)).mono ?_
                  rintro e w4 ⟨⟨j4, g4⟩, rfl⟩
                  have hb4 : Below w3.heap.size w3 w4 := by rw [g4]; exact below_drewN' _ _ _
                  have hH4 : Below wr.heap.size wr w4 := hH3.trans (hb4.mono hH3.size)
                  have hv4 := hv3.trans (hb4.mono hv3.size)
                  have hw4 := hw3.trans (hb4.mono hw3.size)
                  rw [HSAME.out]
                  (try dsimp only)
                  refine hK.out _ _ hH4 (fun hS4 => ?_)
                  clear hK K hb4 g4
                  (try simp only [Act.put, List.setIfInBounds_toArray, List.set_cons_zero, List.set_cons_succ])
                  refine wpAnyH_ready (rs := [8]) (by kernel_rfl) (by simp) ?_
                  refine AllReadyH.cons (o := ({ dst := some 83, op := Op.convert 33 9 (Operand.tmp 82), type := 9, pos := "law.go:133", after := #[{ on := 7, ground := Ground.data }, { on := 5, ground := Ground.guard }], guard := some (5, true) } : Oper)) rfl (fun K hK => ?_) AllReadyH.nil
                  · have cvt := sbv _ hv4
                    go_simp
                    (try dsimp only)
                    refine hK.out _ _ hH4 (fun hSc8 => ?_)
                    clear hK K cvt
                    (try simp only [Act.put, List.setIfInBounds_toArray, List.set_cons_zero, List.set_cons_succ])
                    refine wpAnyH_take (i := 12) (oi := ({ dst := some 87, op := Op.binOp BinOp.eql 9 (Operand.tmp 83) (Operand.tmp 86) 9, type := 4, pos := "law.go:133", after := #[{ on := 8, ground := Ground.data }, { on := 11, ground := Ground.data }, { on := 5, ground := Ground.guard }], guard := some (5, true) } : Oper)) (v := ?_) rfl (by kernel_rfl) (by kernel_rfl) (by kernel_rfl) (fun _ _ _ h => h) (Or.inl ⟨by rfl, ?_⟩) (by assumption) ?_
                    rotate_left
                    · (intro wz hSw; (try dsimp only at hSw); go_simp; try with_reducible rfl)
                    simp only [Act.put, List.setIfInBounds_toArray, List.set_cons_zero, List.set_cons_succ]
                    refine wpAnyH_take (i := 16) (oi := ({ dst := some 91, op := Op.binOp BinOp.eql 4 (Operand.tmp 87) (Operand.tmp 90) 4, type := 4, pos := "law.go:133", after := #[{ on := 12, ground := Ground.data }, { on := 15, ground := Ground.data }, { on := 5, ground := Ground.guard }], guard := some (5, true) } : Oper)) (v := ?_) rfl (by kernel_rfl) (by kernel_rfl) (by kernel_rfl) (fun _ _ _ h => h) (Or.inl ⟨by rfl, ?_⟩) (by assumption) ?_
                    rotate_left
                    · (intro wz hSw; (try dsimp only at hSw); go_simp; try with_reducible rfl)
                    simp only [Act.put, List.setIfInBounds_toArray, List.set_cons_zero, List.set_cons_succ]
                    refine wpAnyH_take (i := 17) (oi := ({ dst := some 92, op := Op.pick (Operand.tmp 80) (Operand.tmp 91) (Operand.const (Value.bool false)), type := 4, pos := "law.go:133", after := #[{ on := 5, ground := Ground.data }, { on := 16, ground := Ground.data }], guard := none } : Oper)) (v := ?_) rfl (by kernel_rfl) (by kernel_rfl) (by kernel_rfl) (fun _ _ _ h => h) (Or.inl ⟨by rfl, ?_⟩) (by assumption) ?_
                    rotate_left
                    · (intro wz hSw; (try dsimp only at hSw); go_simp; try with_reducible rfl)
                    simp only [Act.put, List.setIfInBounds_toArray, List.set_cons_zero, List.set_cons_succ]
                    refine wpAnyH_take (i := 18) (oi := ({ dst := some 6, op := Op.assign (Operand.tmp 92), type := 4, pos := "law.go:133", after := #[{ on := 17, ground := Ground.data }, { on := 15, ground := Ground.chain }, { on := 0, ground := Ground.phase }, { on := 1, ground := Ground.phase }, { on := 2, ground := Ground.phase }, { on := 3, ground := Ground.phase }, { on := 4, ground := Ground.phase }, { on := 5, ground := Ground.phase }, { on := 6, ground := Ground.phase }, { on := 7, ground := Ground.phase }, { on := 8, ground := Ground.phase }, { on := 9, ground := Ground.phase }, { on := 10, ground := Ground.phase }, { on := 11, ground := Ground.phase }, { on := 12, ground := Ground.phase }, { on := 13, ground := Ground.phase }, { on := 14, ground := Ground.phase }, { on := 15, ground := Ground.phase }, { on := 16, ground := Ground.phase }, { on := 17, ground := Ground.phase }], guard := none } : Oper)) (v := ?_) rfl (by kernel_rfl) (by kernel_rfl) (by kernel_rfl) (fun _ _ _ h => h) (Or.inl ⟨by rfl, ?_⟩) (by assumption) ?_
                    rotate_left
                    · (intro wz hSw; (try dsimp only at hSw); go_simp; try with_reducible rfl)
                    simp only [Act.put, List.setIfInBounds_toArray, List.set_cons_zero, List.set_cons_succ]
                    refine wpAnyH_done (by kernel_rfl) ?_ _
                    go_wp2
                    go_ret
                    exact ⟨by simp [HNE], BW.out.trans (hH4.mono BW.out.size)⟩
              · go_simp
                go_at_call 12
                refine (rsame_any xs ys a1 b2 c1 d2 w3 (RA.out.keep' hH3) (RB.out.keep' hH3) (by omega) (by omega)).mono ?_
                rintro e w4 ⟨⟨j4, g4⟩, rfl⟩
                have hb4 : Below w3.heap.size w3 w4 := by rw [g4]; exact below_drewN' _ _ _
                have hH4 : Below wr.heap.size wr w4 := hH3.trans (hb4.mono hH3.size)
                have hv4 := hv3.trans (hb4.mono hv3.size)
                have hw4 := hw3.trans (hb4.mono hw3.size)
                rw [HSAME.out]
                (try dsimp only)
                refine hK.out _ _ hH4 (fun hS4 => ?_)
                clear hK K hb4 g4
                (try simp only [Act.put, List.setIfInBounds_toArray, List.set_cons_zero, List.set_cons_succ])
                refine wpAnyH_ready (rs := [8, 11]) (by kernel_rfl) (by simp) ?_
                refine AllReadyH.cons (o := ({ dst := some 83, op := Op.convert 33 9 (Operand.tmp 82), type := 9, pos := "law.go:133", after := #[{ on := 7, ground := Ground.data }, { on := 5, ground := Ground.guard }], guard := some (5, true) } : Oper)) rfl (fun K hK => ?_) (AllReadyH.cons (o := ({ dst := some 86, op := Op.convert 33 9 (Operand.tmp 85), type := 9, pos := "law.go:133", after := #[{ on := 10, ground := Ground.data }, { on := 5, ground := Ground.guard }], guard := some (5, true) } : Oper)) rfl (fun K hK => ?_) AllReadyH.nil)
                · have cvt := sbv _ hv4
                  go_simp
                  (try dsimp only)
                  refine hK.out _ _ hH4 (fun hSc8 => ?_)
                  clear hK K cvt
                  (try simp only [Act.put, List.setIfInBounds_toArray, List.set_cons_zero, List.set_cons_succ])
                  refine wpAnyH_ready (rs := [11]) (by kernel_rfl) (by simp) ?_
                  refine AllReadyH.cons (o := ({ dst := some 86, op := Op.convert 33 9 (Operand.tmp 85), type := 9, pos := "law.go:133", after := #[{ on := 10, ground := Ground.data }, { on := 5, ground := Ground.guard }], guard := some (5, true) } : Oper)) rfl (fun K hK => ?_) AllReadyH.nil
                  · have cvt := sbw _ hw4
                    go_simp
                    (try dsimp only)
                    refine hK.out _ _ hH4 (fun hSc11 => ?_)
                    clear hK K cvt
                    (try simp only [Act.put, List.setIfInBounds_toArray, List.set_cons_zero, List.set_cons_succ])
                    refine wpAnyH_take (i := 12) (oi := ({ dst := some 87, op := Op.binOp BinOp.eql 9 (Operand.tmp 83) (Operand.tmp 86) 9, type := 4, pos := "law.go:133", after := #[{ on := 8, ground := Ground.data }, { on := 11, ground := Ground.data }, { on := 5, ground := Ground.guard }], guard := some (5, true) } : Oper)) (v := ?_) rfl (by kernel_rfl) (by kernel_rfl) (by kernel_rfl) (fun _ _ _ h => h) (Or.inl ⟨by rfl, ?_⟩) (by assumption) ?_
                    rotate_left
                    · (intro wz hSw; (try dsimp only at hSw); go_simp; try with_reducible rfl)
                    simp only [Act.put, List.setIfInBounds_toArray, List.set_cons_zero, List.set_cons_succ]
                    refine wpAnyH_take (i := 16) (oi := ({ dst := some 91, op := Op.binOp BinOp.eql 4 (Operand.tmp 87) (Operand.tmp 90) 4, type := 4, pos := "law.go:133", after := #[{ on := 12, ground := Ground.data }, { on := 15, ground := Ground.data }, { on := 5, ground := Ground.guard }], guard := some (5, true) } : Oper)) (v := ?_) rfl (by kernel_rfl) (by kernel_rfl) (by kernel_rfl) (fun _ _ _ h => h) (Or.inl ⟨by rfl, ?_⟩) (by assumption) ?_
                    rotate_left
                    · (intro wz hSw; (try dsimp only at hSw); go_simp; try with_reducible rfl)
                    simp only [Act.put, List.setIfInBounds_toArray, List.set_cons_zero, List.set_cons_succ]
                    refine wpAnyH_take (i := 17) (oi := ({ dst := some 92, op := Op.pick (Operand.tmp 80) (Operand.tmp 91) (Operand.const (Value.bool false)), type := 4, pos := "law.go:133", after := #[{ on := 5, ground := Ground.data }, { on := 16, ground := Ground.data }], guard := none } : Oper)) (v := ?_) rfl (by kernel_rfl) (by kernel_rfl) (by kernel_rfl) (fun _ _ _ h => h) (Or.inl ⟨by rfl, ?_⟩) (by assumption) ?_
                    rotate_left
                    · (intro wz hSw; (try dsimp only at hSw); go_simp; try with_reducible rfl)
                    simp only [Act.put, List.setIfInBounds_toArray, List.set_cons_zero, List.set_cons_succ]
                    refine wpAnyH_take (i := 18) (oi := ({ dst := some 6, op := Op.assign (Operand.tmp 92), type := 4, pos := "law.go:133", after := #[{ on := 17, ground := Ground.data }, { on := 15, ground := Ground.chain }, { on := 0, ground := Ground.phase }, { on := 1, ground := Ground.phase }, { on := 2, ground := Ground.phase }, { on := 3, ground := Ground.phase }, { on := 4, ground := Ground.phase }, { on := 5, ground := Ground.phase }, { on := 6, ground := Ground.phase }, { on := 7, ground := Ground.phase }, { on := 8, ground := Ground.phase }, { on := 9, ground := Ground.phase }, { on := 10, ground := Ground.phase }, { on := 11, ground := Ground.phase }, { on := 12, ground := Ground.phase }, { on := 13, ground := Ground.phase }, { on := 14, ground := Ground.phase }, { on := 15, ground := Ground.phase }, { on := 16, ground := Ground.phase }, { on := 17, ground := Ground.phase }], guard := none } : Oper)) (v := ?_) rfl (by kernel_rfl) (by kernel_rfl) (by kernel_rfl) (fun _ _ _ h => h) (Or.inl ⟨by rfl, ?_⟩) (by assumption) ?_
                    rotate_left
                    · (intro wz hSw; (try dsimp only at hSw); go_simp; try with_reducible rfl)
                    simp only [Act.put, List.setIfInBounds_toArray, List.set_cons_zero, List.set_cons_succ]
                    refine wpAnyH_done (by kernel_rfl) ?_ _
                    go_wp2
                    go_ret
                    exact ⟨by simp [HNE], BW.out.trans (hH4.mono BW.out.size)⟩
                · have cvt := sbw _ hw4
                  go_simp
                  (try dsimp only)
                  refine hK.out _ _ hH4 (fun hSc11 => ?_)
                  clear hK K cvt
                  (try simp only [Act.put, List.setIfInBounds_toArray, List.set_cons_zero, List.set_cons_succ])
                  refine wpAnyH_ready (rs := [8]) (by kernel_rfl) (by simp) ?_
                  refine AllReadyH.cons (o := ({ dst := some 83, op := Op.convert 33 9 (Operand.tmp 82), type := 9, pos := "law.go:133", after := #[{ on := 7, ground := Ground.data }, { on := 5, ground := Ground.guard }], guard := some (5, true) } : Oper)) rfl (fun K hK => ?_) AllReadyH.nil
                  · have cvt := sbv _ hv4
                    go_simp
                    (try dsimp only)
                    refine hK.out _ _ hH4 (fun hSc8 => ?_)
                    clear hK K cvt
                    (try simp only [Act.put, List.setIfInBounds_toArray, List.set_cons_zero, List.set_cons_succ])
                    refine wpAnyH_take (i := 12) (oi := ({ dst := some 87, op := Op.binOp BinOp.eql 9 (Operand.tmp 83) (Operand.tmp 86) 9, type := 4, pos := "law.go:133", after := #[{ on := 8, ground := Ground.data }, { on := 11, ground := Ground.data }, { on := 5, ground := Ground.guard }], guard := some (5, true) } : Oper)) (v := ?_) rfl (by kernel_rfl) (by kernel_rfl) (by kernel_rfl) (fun _ _ _ h => h) (Or.inl ⟨by rfl, ?_⟩) (by assumption) ?_
                    rotate_left
                    · (intro wz hSw; (try dsimp only at hSw); go_simp; try with_reducible rfl)
                    simp only [Act.put, List.setIfInBounds_toArray, List.set_cons_zero, List.set_cons_succ]
                    refine wpAnyH_take (i := 16) (oi := ({ dst := some 91, op := Op.binOp BinOp.eql 4 (Operand.tmp 87) (Operand.tmp 90) 4, type := 4, pos := "law.go:133", after := #[{ on := 12, ground := Ground.data }, { on := 15, ground := Ground.data }, { on := 5, ground := Ground.guard }], guard := some (5, true) } : Oper)) (v := ?_) rfl (by kernel_rfl) (by kernel_rfl) (by kernel_rfl) (fun _ _ _ h => h) (Or.inl ⟨by rfl, ?_⟩) (by assumption) ?_
                    rotate_left
                    · (intro wz hSw; (try dsimp only at hSw); go_simp; try with_reducible rfl)
                    simp only [Act.put, List.setIfInBounds_toArray, List.set_cons_zero, List.set_cons_succ]
                    refine wpAnyH_take (i := 17) (oi := ({ dst := some 92, op := Op.pick (Operand.tmp 80) (Operand.tmp 91) (Operand.const (Value.bool false)), type := 4, pos := "law.go:133", after := #[{ on := 5, ground := Ground.data }, { on := 16, ground := Ground.data }], guard := none } : Oper)) (v := ?_) rfl (by kernel_rfl) (by kernel_rfl) (by kernel_rfl) (fun _ _ _ h => h) (Or.inl ⟨by rfl, ?_⟩) (by assumption) ?_
                    rotate_left
                    · (intro wz hSw; (try dsimp only at hSw); go_simp; try with_reducible rfl)
                    simp only [Act.put, List.setIfInBounds_toArray, List.set_cons_zero, List.set_cons_succ]
                    refine wpAnyH_take (i := 18) (oi := ({ dst := some 6, op := Op.assign (Operand.tmp 92), type := 4, pos := "law.go:133", after := #[{ on := 17, ground := Ground.data }, { on := 15, ground := Ground.chain }, { on := 0, ground := Ground.phase }, { on := 1, ground := Ground.phase }, { on := 2, ground := Ground.phase }, { on := 3, ground := Ground.phase }, { on := 4, ground := Ground.phase }, { on := 5, ground := Ground.phase }, { on := 6, ground := Ground.phase }, { on := 7, ground := Ground.phase }, { on := 8, ground := Ground.phase }, { on := 9, ground := Ground.phase }, { on := 10, ground := Ground.phase }, { on := 11, ground := Ground.phase }, { on := 12, ground := Ground.phase }, { on := 13, ground := Ground.phase }, { on := 14, ground := Ground.phase }, { on := 15, ground := Ground.phase }, { on := 16, ground := Ground.phase }, { on := 17, ground := Ground.phase }], guard := none } : Oper)) (v := ?_) rfl (by kernel_rfl) (by kernel_rfl) (by kernel_rfl) (fun _ _ _ h => h) (Or.inl ⟨by rfl, ?_⟩) (by assumption) ?_
                    rotate_left
                    · (intro wz hSw; (try dsimp only at hSw); go_simp; try with_reducible rfl)
                    simp only [Act.put, List.setIfInBounds_toArray, List.set_cons_zero, List.set_cons_succ]
                    refine wpAnyH_done (by kernel_rfl) ?_ _
                    go_wp2
                    go_ret
                    exact ⟨by simp [HNE], BW.out.trans (hH4.mono BW.out.size)⟩
    · have hi2 : i ≤ 2 := by omega
      have hi4 : (i : Int) < 3 := by omega
      have hi0 : (0 : Int) ≤ i := by omega
      obtain ⟨ai, ci, hcell0, hbk, hnn⟩ := WAYS.out i hi2
      have hcell : wr.cell? ⟨NW, i, none⟩ = some (.slice ai (wayB k xs i).length ci) := (hb.out.cell (p := ⟨NW, i, none⟩) (World.block_lt_of_cell? _ _ hcell0)).trans hcell0
      have hPl : (wayB k xs i).length ≤ 1000000 := by rw [(HWL.out i).1]; exact (HWL.out i).2
      have C18 := read_any ai ci (wayB k xs i) wr (hbk wr (Fr.ofBelow hb.out)).bs (by omega)
      have hleft : leftOf (wayB k xs i) 0 (wayB k xs i).length = wayB k xs i := by simp [leftOf]
      obtain ⟨P, hP⟩ : ∃ P, P = wayB k xs i := ⟨_, rfl⟩
      rw [← hP] at hcell hPl C18 hleft
      have HP := hide (hleft.trans hP)
      have hRA := hide (RA.out.keep' hb.out)
      have BW := hide (B10.out.trans (hb.out.mono B10.out.size))
      have HHB := hide hb.out
      have HNI := hide hnn
      clear hcell0 hbk hnn hleft hP hb
      by_cases hwi : wy = i
      · rw [if_neg (show ¬ wy < i by omega)]
        have HT : Hid ((if wy < i + 1 then 1 else 0 : Nat) = 1) := if_pos (by omega)
        have HWI := hide hwi
        clear hwi
        go_wp2_with first | (go_at_call 18; refine C18.mono ?_; rintro e w11 ⟨rfl, h11⟩; clear C18; have b11 : Below wr.heap.size wr w11 := (by rw [h11]; exact (below_new).alloc (by simp) _); have C19 := read_ok (wr.heap.size + 1) wr.heap.size P 0 P.length k xs w11 (by rw [h11]; exact rdr_new P wr (by omega)) hk HRX.out (by rw [HP.out, ← HWI.out, HWY.out]); replace b11 := hide b11; clear h11) | (go_at_call 19; refine C19.mono ?_; rintro e w12 ⟨a12, c12, rfl, z1, z2, z3', z4', z5⟩; clear C19; have b12 : Below wr.heap.size wr w12 := b11.out.trans (z5.below b11.out.size (by rintro j rfl; omega)); have C12 := rsame_any xs xs a12 a1 c12 c1 w12 (z3' w12 (Fr.refl _ _)) (hRA.out.keep' b12) (by omega) (by omega); have HB12 := hide (HHB.out.trans (b12.mono HHB.out.size)); clear z1 z2 z3' z4' z5 b12) | (go_at_call 12; refine C12.mono ?_; rintro e w13 ⟨⟨j13, g13⟩, rfl⟩; clear C12; have HB13 := hide (show Below W10.heap.size W10 w13 by rw [g13]; exact below_drewN HB12.out j13); clear g13; rw [show sameL xs xs = true from decide_eq_true rfl])
        go_round
        case rel => exact ⟨i + 1, by go_num, by omega, by rw [HT.out]; rfl, HB13⟩
        case measure => simp [intOf]; omega
      · have HT : Hid ((if wy < i + 1 then 1 else 0 : Nat) = (if wy < i then 1 else 0 : Nat)) := by
          unfold Hid
          by_cases h : wy < i
          · rw [if_pos h, if_pos (by omega)]
          · rw [if_neg h, if_neg (by omega)]
        generalize (if wy < i then 1 else 0 : Nat) = tk at *
        have HWI := hide hwi
        clear hwi
        go_wp2_with first | (go_at_call 18; refine C18.mono ?_; rintro e w11 ⟨rfl, h11⟩; clear C18; have b11 : Below wr.heap.size wr w11 := (by rw [h11]; exact (below_new).alloc (by simp) _); have C19 := read_bad hi2 (wr.heap.size + 1) wr.heap.size P 0 P.length k xs w11 (((BW.out.trans (b11.mono BW.out.size)).cell (p := ⟨0, 0, none⟩) HGL.out.lt).trans HGL.out) (by rw [h11]; exact rdr_new P wr (by omega)) hk HRX.out HP.out (by rw [← HWY.out]; exact HWI.out); replace b11 := hide b11; clear h11) | (go_at_call 19; refine C19.mono ?_; rintro e w12 ⟨v12, rfl, hv, f12⟩; clear C19; obtain ⟨T12, x12, rfl⟩ := hv.iface; have b12 : Below wr.heap.size wr w12 := b11.out.trans (f12.below b11.out.size (fun _ h => h.elim)); have C13 := fis_any _ _ 3 3 w12 (((BW.out.trans (b12.mono BW.out.size)).cell (p := ⟨0, 0, none⟩) HGL.out.lt).trans HGL.out) hv.err (by omega); have HB12 := hide (HHB.out.trans (b12.mono HHB.out.size)); clear hv f12 b12) | (go_at_call 13; refine C13.mono ?_; rintro e w13 ⟨rfl, f13⟩; clear C13; have HB13 := hide (HB12.out.trans ((f13.below (Nat.le_refl _) (fun _ h => h.elim)).mono HB12.out.size)); clear f13)
        go_round
        case rel => exact ⟨i + 1, by go_num, by omega, by rw [HT.out], HB13⟩
        case measure => simp [intOf]; omega
end Go.Proofs.YtidhcmhheohciaaDoor
