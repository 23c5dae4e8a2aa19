import Derived.Test.YtmhicllhjiglkaaG04
import Derived.Deep.RegionHeld3
import Derived.Test.YtmhicllhjiglkaaG02
namespace Go.Proofs.Ytmhicllhjiglkaa
open Go.RowKit
theorem ri_lt {w : World} {nb : Nat} {x : Int} (h : Ri w (some ⟨nb, 0, none⟩) [x]) : nb < w.heap.size := by
  obtain ⟨b, o, e, hc⟩ := h 0 x rfl
  obtain ⟨rfl, rfl⟩ : nb = b ∧ 0 = o := by simpa using e
  exact World.block_lt_of_cell? w _ hc
theorem St.form {w0 wr : World} {a : Option Addr} {n c : Nat} {ps : List Int} (h : St w0 wr (.slice a n c) ps) : (a = Option.none ∧ c = 0 ∧ ps = []) ∨ ∃ b o, a = Option.some ⟨b, o, Option.none⟩ := by
  rcases h.own.2 with ⟨h1, h2⟩ | ⟨g, cap, cur, h1, _⟩
  · simp only [Value.slice.injEq] at h1
    exact .inl ⟨h1.1, h1.2.2, List.eq_nil_of_length_eq_zero h2⟩
  · simp only [Value.slice.injEq] at h1
    exact .inr ⟨g, 0, h1.1⟩
set_option maxRecDepth 100000 in
set_option maxHeartbeats 8000000 in
theorem rise_any (l : List Int) (a : Option Addr) (c : Nat) (w : World) (hr : Ri w a l) (hl : l.length ≤ 100000) :
    Calls Try.prog 76 #[.slice a l.length c] w fun e w' => ∃ v out, e = .returned v ∧ St w w' v out ∧ UpP out ∧ (∀ y, y ∈ out ↔ y ∈ l) ∧ out.length ≤ l.length := by
  have HR := hide hr
  clear hr
  go_enter Try.func76, Try.ntmps76
  go_wp2_with fail
  go_loopw [3, 4] (fun s3 s4 wr => ∃ (i : Nat) (out : List Int), s4 = .int .i64 i ∧ i ≤ l.length ∧ out.length ≤ i ∧ Hid (St w wr s3 out ∧ UpP out ∧ ∀ y, y ∈ out ↔ y ∈ l.take i)) (fun _ s4 _ => l.length - (intOf s4).toNat)
  case atStart => exact ⟨0, [], rfl, Nat.zero_le _, Nat.le_refl _, ⟨St.start w, List.Pairwise.nil, fun y => by simp⟩⟩
  case round =>
    obtain ⟨i, out, rfl, hi, ho, h4⟩ := hrel
    obtain ⟨aa, cc, rfl⟩ := h4.out.1.slice
    by_cases hi2 : i = l.length
    · subst hi2
      go_wp2
      go_ret
      have t := h4.out.2.2
      rw [List.take_of_length_le (Nat.le_refl _)] at t
      exact ⟨_, out, rfl, h4.out.1, h4.out.2.1, t, ho⟩
    · have hlt : i < l.length := by omega
      have hlt' : (i : Int) < l.length := by omega
      obtain ⟨ab, ao, rfl, hcell⟩ := (HR.out.keep' h4.out.1.bel).at hlt
      have HX : Hid (l.take (i + 1) = l.take i ++ [l.getD i 0]) := by
        unfold Hid
        rw [List.take_succ_eq_append_getElem hlt]; simp [hlt]
      generalize l.getD i 0 = x at *
      have HC := hide hcell
      clear hcell
      go_upto_region 5 with fail
      go_name_world W hW
      rw [hW] at h4 HC
      clear hW
      have HO := hide h4.out.1.ri
      go_wp2_with fail
      go_loopw [5] (fun s5 wr => ∃ k n : Nat, wr = W.drewN n ∧ s5 = .int .i64 k ∧ k ≤ out.length ∧ Hid (∀ j, j < k → out.getD j 0 < x)) (fun s5 _ => out.length - (intOf s5).toNat)
      case atStart => exact ⟨0, 0, rfl, rfl, Nat.zero_le _, fun j hj => by omega⟩
      case round =>
        obtain ⟨k, n, rfl, rfl, hk, h5⟩ := hrel
        have hcell := HC.out
        by_cases hk2 : k = out.length
        · subst hk2
          have hno : ¬ (out.length : Int) < out.length := by omega
          go_wp2
          go_quiet (fail)
          go_wp2_with fail
          go_quiet (fail)
          go_upto_region 9 with fail
          rcases h4.out.1.form with ⟨rfl, rfl, rfl⟩ | ⟨bb, oo, rfl⟩
          · skip
            go_name_world W9 hW9
            have h9 : Hid (St w W9 (.slice none ([] : List Int).length 0) ([] : List Int)) := hide (by rw [← hW9]; first | exact h4.out.1.drewN _ | exact (h4.out.1.drewN _).drewN _ | exact ((h4.out.1.drewN _).drewN _).drewN _)
            have hc9 : Hid (W9.cell? ⟨ab, ao + i, none⟩ = some (.int .i64 x)) := hide (hW9 ▸ HC.out)
            have HUP : Hid (UpP (([] : List Int) ++ [x] ++ ([] : List Int))) := hide (by have t := insert_up h4.out.2.1 (Nat.le_refl _) h5.out (fun t => absurd t (Nat.lt_irrefl _)); rw [List.take_length, List.drop_length] at t; exact t)
            have HMEM : Hid (∀ y, y ∈ ([] : List Int) ++ [x] ++ ([] : List Int) ↔ y ∈ l.take (i + 1)) := hide (fun y => by have t := insert_mem ([] : List Int) x ([] : List Int).length y; rw [List.take_length, List.drop_length] at t; rw [t, h4.out.2.2 y, HX.out, List.mem_append]; simp)
            clear hW9 h4 HC h5 HO
            try clear hcell
            have HS : Hid (∀ w', Below W9.heap.size W9 w' → (w'.cell? ⟨ab, ao + i, none⟩ = some (.int .i64 x))) := fun w' h => (h.cell (p := ⟨ab, ao + i, none⟩) (World.block_lt_of_cell? W9 _ hc9.out)).trans hc9.out
            have BW : Hid (Below w.heap.size w W9) := hide h9.out.bel
            have PL : Hid (([] : List Int).length + ([] : List Int).length ≤ 1000000) := hide (by first | (simp; done) | (simp; omega))
            have PL1 : Hid (([] : List Int).length + [x].length ≤ 1000000) := hide (by first | (simp; done) | (simp; omega))
            have PL2 : Hid ((([] : List Int) ++ [x]).length + ([] : List Int).length ≤ 1000000) := hide (by first | (simp; done) | (simp; omega))
            have hcap := h9.out.cap
            have hnn := h9.out.nn
            have HR9 := hide h9.out.ri
            have HP : Hid (∀ w', Below W9.heap.size W9 w' → Ri w' none ([] : List Int)) := hide (fun w' _ => Ri.nil _ _)
            have HD : Hid (∀ w', Below W9.heap.size W9 w' → Ri w' none ([] : List Int)) := hide (fun w' _ => Ri.nil _ _)
            have PN : Hid ((none : Option Addr) = none → 0 = 0 ∧ ([] : List Int) = []) := hide (fun _ => ⟨rfl, rfl⟩)
            have DN : Hid ((none : Option Addr) = none → 0 = 0 ∧ ([] : List Int) = []) := hide (fun _ => ⟨rfl, rfl⟩)
            clear h9 HR9 hnn hcap
            refine wp_region_held_drew (S := fun w' => w'.cell? ⟨ab, ao + i, none⟩ = some (.int .i64 x)) (by kernel_rfl) (HS.out _ (Below.refl _ _).drew) (fun hH0 => ?_)
            obtain ⟨w0, hw0⟩ : ∃ w0, w0 = W9.drew := ⟨_, rfl⟩
            rw [← hw0] at hH0 ⊢
            have b0 : Hid (Below W9.heap.size W9 w0) := hw0 ▸ hide (Below.refl _ _).drew
            clear hw0
            refine wpAnyH_take (i := 1) (oi := ({ dst := some 45, op := Op.move (Operand.tmp 3), type := 38, pos := _, after := _, guard := _ } : Oper)) (v := ?_) rfl (by kernel_rfl) (by kernel_rfl) (by kernel_rfl) (fun _ _ _ h => h) (Or.inl ⟨by rfl, ?_⟩) (by assumption) ?_
            rotate_left
            · (intro wz hSw; (try dsimp only at hSw); go_simp; try with_reducible rfl)
            simp only [Act.put, List.setIfInBounds_toArray, List.set_cons_zero, List.set_cons_succ]
            refine wpAnyH_take (i := 2) (oi := ({ dst := some 46, op := Op.move (Operand.tmp 5), type := 3, pos := _, after := _, guard := _ } : Oper)) (v := ?_) rfl (by kernel_rfl) (by kernel_rfl) (by kernel_rfl) (fun _ _ _ h => h) (Or.inl ⟨by rfl, ?_⟩) (by assumption) ?_
            rotate_left
            · (intro wz hSw; (try dsimp only at hSw); go_simp; try with_reducible rfl)
            simp only [Act.put, List.setIfInBounds_toArray, List.set_cons_zero, List.set_cons_succ]
            refine wpAnyH_take (i := 3) (oi := ({ dst := some 47, op := Op.slice 38 (Operand.tmp 45) none (some (Operand.tmp 46)) none, type := 38, pos := _, after := _, guard := _ } : Oper)) (v := ?_) rfl (by kernel_rfl) (by kernel_rfl) (by kernel_rfl) (fun _ _ _ h => h) (Or.inl ⟨by rfl, ?_⟩) (by assumption) ?_
            rotate_left
            · (intro wz hSw; (try dsimp only at hSw); go_simp; try with_reducible rfl)
            simp only [Act.put, List.setIfInBounds_toArray, List.set_cons_zero, List.set_cons_succ]
            refine wpAnyH_take (i := 5) (oi := ({ dst := some 49, op := Op.move (Operand.tmp 0), type := 38, pos := _, after := _, guard := _ } : Oper)) (v := ?_) rfl (by kernel_rfl) (by kernel_rfl) (by kernel_rfl) (fun _ _ _ h => h) (Or.inl ⟨by rfl, ?_⟩) (by assumption) ?_
            rotate_left
            · (intro wz hSw; (try dsimp only at hSw); go_simp; try with_reducible rfl)
            simp only [Act.put, List.setIfInBounds_toArray, List.set_cons_zero, List.set_cons_succ]
            refine wpAnyH_take (i := 6) (oi := ({ dst := some 50, op := Op.move (Operand.tmp 4), type := 3, pos := _, after := _, guard := _ } : Oper)) (v := ?_) rfl (by kernel_rfl) (by kernel_rfl) (by kernel_rfl) (fun _ _ _ h => h) (Or.inl ⟨by rfl, ?_⟩) (by assumption) ?_
            rotate_left
            · (intro wz hSw; (try dsimp only at hSw); go_simp; try with_reducible rfl)
            simp only [Act.put, List.setIfInBounds_toArray, List.set_cons_zero, List.set_cons_succ]
            refine wpAnyH_take (i := 7) (oi := ({ dst := some 51, op := Op.indexAddr 38 (Operand.tmp 49) (Operand.tmp 50), type := 0, pos := _, after := _, guard := _ } : Oper)) (v := ?_) rfl (by kernel_rfl) (by kernel_rfl) (by kernel_rfl) (fun _ _ _ h => h) (Or.inl ⟨by rfl, ?_⟩) (by assumption) ?_
            rotate_left
            · (intro wz hSw; (try dsimp only at hSw); go_simp; try with_reducible rfl)
            simp only [Act.put, List.setIfInBounds_toArray, List.set_cons_zero, List.set_cons_succ]
            refine wpAnyH_take (i := 8) (oi := ({ dst := some 52, op := Op.load 3 (Operand.tmp 51), type := 3, pos := _, after := _, guard := _ } : Oper)) (v := ?_) rfl (by kernel_rfl) (by kernel_rfl) (by kernel_rfl) (fun _ _ _ h => h) (Or.inl ⟨by rfl, ?_⟩) (by assumption) ?_
            rotate_left
            · (intro wz hSw; (try dsimp only at hSw); go_simp; try with_reducible rfl)
            simp only [Act.put, List.setIfInBounds_toArray, List.set_cons_zero, List.set_cons_succ]
            refine wpAnyH_take (i := 11) (oi := ({ dst := some 55, op := Op.move (Operand.tmp 3), type := 38, pos := _, after := _, guard := _ } : Oper)) (v := ?_) rfl (by kernel_rfl) (by kernel_rfl) (by kernel_rfl) (fun _ _ _ h => h) (Or.inl ⟨by rfl, ?_⟩) (by assumption) ?_
            rotate_left
            · (intro wz hSw; (try dsimp only at hSw); go_simp; try with_reducible rfl)
            simp only [Act.put, List.setIfInBounds_toArray, List.set_cons_zero, List.set_cons_succ]
            refine wpAnyH_take (i := 12) (oi := ({ dst := some 56, op := Op.move (Operand.tmp 5), type := 3, pos := _, after := _, guard := _ } : Oper)) (v := ?_) rfl (by kernel_rfl) (by kernel_rfl) (by kernel_rfl) (fun _ _ _ h => h) (Or.inl ⟨by rfl, ?_⟩) (by assumption) ?_
            rotate_left
            · (intro wz hSw; (try dsimp only at hSw); go_simp; try with_reducible rfl)
            simp only [Act.put, List.setIfInBounds_toArray, List.set_cons_zero, List.set_cons_succ]
            refine wpAnyH_take (i := 13) (oi := ({ dst := some 57, op := Op.slice 38 (Operand.tmp 55) (some (Operand.tmp 56)) none none, type := 38, pos := _, after := _, guard := _ } : Oper)) (v := ?_) rfl (by kernel_rfl) (by kernel_rfl) (by kernel_rfl) (fun _ _ _ h => h) (Or.inl ⟨by rfl, ?_⟩) (by assumption) ?_
            rotate_left
            · (intro wz hSw; (try dsimp only at hSw); go_simp; try with_reducible rfl)
            simp only [Act.put, List.setIfInBounds_toArray, List.set_cons_zero, List.set_cons_succ]
            refine wpAnyH_ready (rs := [0, 9]) (by kernel_rfl) (by simp) ?_
            refine AllReadyH.cons (o := ({ dst := some 44, op := Op.buildSlice 38 0 #[], type := 38, pos := _, after := _, guard := _ } : Oper)) rfl (fun K hK => ?_) (AllReadyH.cons (o := ({ dst := some 53, op := Op.buildSlice 38 1 #[(0, Operand.tmp 52)], type := 38, pos := _, after := _, guard := _ } : Oper)) rfl (fun K hK => ?_) AllReadyH.nil)
            · go_simp
              have hb1 : Below w0.heap.size w0 (w0.alloc (.cells #[] 3)) := (Below.refl _ _).alloc (Nat.le_refl _) _
              have b1 := hide (b0.out.trans (hb1.mono b0.out.size))
              have s1 := hide ((St.lit0 w0).base b0.out)
              refine hK.out _ _ (HS.out _ b1.out) (fun hH1 => ?_)
              clear hK K hb1
              obtain ⟨w1, hw1⟩ : ∃ z9, z9 = (w0.alloc (.cells #[] 3)) := ⟨_, rfl⟩
              rw [← hw1] at hH1 b1 s1  ⊢
              clear hw1
              obtain ⟨ne, hne⟩ : ∃ z9, z9 = w0.heap.size := ⟨_, rfl⟩
              rw [← hne] at s1  ⊢
              replace hne := hide hne
              have ne0 : Hid (ne < w1.heap.size) := hide (s1.out.own.lt ne rfl).2
              refine wpAnyH_ready (rs := [4, 9]) (by kernel_rfl) (by simp) ?_
              refine AllReadyH.cons (o := ({ dst := some 48, op := Op.call { callee := Callee.builtin Builtin.append, args := #[Operand.tmp 44, Operand.tmp 47], argTypes := #[38, 38] }, type := 38, pos := _, after := _, guard := _ } : Oper)) rfl (fun K hK => ?_) (AllReadyH.cons (o := ({ dst := some 53, op := Op.buildSlice 38 1 #[(0, Operand.tmp 52)], type := 38, pos := _, after := _, guard := _ } : Oper)) rfl (fun K hK => ?_) AllReadyH.nil)
              · refine wp_appY W9 w1 (.tmp 44) (.tmp 47) rfl _ [] s1.out rfl none 0 ([] : List Int) rfl (HP.out _ b1.out) PN.out PL.out ?_
                intro a2 c2 w2 hO2 hg2
                simp only [List.length_nil, Nat.zero_add, List.nil_append] at hO2 ⊢
                have b2 := hide hO2.bel
                have s2 := hide hO2
                refine hK.out _ _ (HS.out _ b2.out) (fun hH2 => ?_)
                clear hK K hO2 hg2
                refine wpAnyH_ready (rs := [9]) (by kernel_rfl) (by simp) ?_
                refine AllReadyH.cons (o := ({ dst := some 53, op := Op.buildSlice 38 1 #[(0, Operand.tmp 52)], type := 38, pos := _, after := _, guard := _ } : Oper)) rfl (fun K hK => ?_) AllReadyH.nil
                · go_simp
                  have hb3 : Below w2.heap.size w2 (w2.alloc (.cells #[.int .i64 x] 3)) := (Below.refl _ _).alloc (Nat.le_refl _) _
                  have b3 := hide (b2.out.trans (hb3.mono b2.out.size))
                  have s3 := hide (s2.out.more (.cells #[.int .i64 x] 3))
                  have l3 := hide (ri_lit1 w2 x)
                  have nf : Hid (∀ k, Value.ownBlock (.slice a2 ([] : List Int).length c2) = some k → k < w2.heap.size) := hide (fun k hk => (s2.out.own.lt k hk).2)
                  refine hK.out _ _ (HS.out _ b3.out) (fun hH3 => ?_)
                  clear hK K hb3
                  obtain ⟨w3, hw3⟩ : ∃ z9, z9 = (w2.alloc (.cells #[.int .i64 x] 3)) := ⟨_, rfl⟩
                  rw [← hw3] at hH3 b3 l3 s3 ⊢
                  clear hw3
                  generalize w2.heap.size = nb at *
                  refine wpAnyH_ready (rs := [10]) (by kernel_rfl) (by simp) ?_
                  refine AllReadyH.cons (o := ({ dst := some 54, op := Op.call { callee := Callee.builtin Builtin.append, args := #[Operand.tmp 48, Operand.tmp 53], argTypes := #[38, 38] }, type := 38, pos := _, after := _, guard := _ } : Oper)) rfl (fun K hK => ?_) AllReadyH.nil
                  · refine wp_appY W9 w3 (.tmp 48) (.tmp 53) rfl _ ([] : List Int) s3.out rfl (some ⟨nb, 0, none⟩) 1 [x] rfl l3.out (fun t => by cases t) PL1.out ?_
                    intro a4 c4 w4 hO4 hg4
                    have b4 := hide hO4.bel
                    have s4 := hide hO4
                    refine hK.out _ _ (HS.out _ b4.out) (fun hH4 => ?_)
                    clear hK K hO4 hg4
                    refine wpAnyH_ready (rs := [14]) (by kernel_rfl) (by simp) ?_
                    refine AllReadyH.cons (o := ({ dst := some 58, op := Op.call { callee := Callee.builtin Builtin.append, args := #[Operand.tmp 54, Operand.tmp 57], argTypes := #[38, 38] }, type := 38, pos := _, after := _, guard := _ } : Oper)) rfl (fun K hK => ?_) AllReadyH.nil
                    · refine wp_appY W9 w4 (.tmp 54) (.tmp 57) rfl _ (([] : List Int) ++ [x]) s4.out (by simp [go_sem]) none 0 ([] : List Int) (by simp [go_sem]; try rfl) (HD.out _ b4.out) DN.out PL2.out ?_
                      intro a5 c5 w5 hO5 hg5
                      have b5 := hide hO5.bel
                      have s5 := hide hO5
                      refine hK.out _ _ (HS.out _ b5.out) (fun hH5 => ?_)
                      clear hK K hO5 hg5
                      refine wpAnyH_take (i := 15) (oi := ({ dst := some 3, op := Op.assign (Operand.tmp 58), type := 38, pos := _, after := _, guard := _ } : Oper)) (v := ?_) rfl (by kernel_rfl) (by kernel_rfl) (by kernel_rfl) (fun _ _ _ h => h) (Or.inl ⟨by rfl, ?_⟩) (by assumption) ?_
                      rotate_left
                      · (intro wz hSw; (try dsimp only at hSw); go_simp; try with_reducible rfl)
                      simp only [Act.put, List.setIfInBounds_toArray, List.set_cons_zero, List.set_cons_succ]
                      refine wpAnyH_done (by kernel_rfl) ?_ _
                      clear HS
                      go_wp2_with fail
                      exact ⟨⟨i + 1, ([] : List Int) ++ [x] ++ ([] : List Int), by simp, by omega, by first | (simp; done) | (simp; omega) | (simp at *; omega), ⟨by have t := s5.out.base BW.out; simpa using t, HUP.out, HMEM.out⟩⟩, by simp [intOf]; omega⟩
              · go_simp
                have hb2 : Below w1.heap.size w1 (w1.alloc (.cells #[.int .i64 x] 3)) := (Below.refl _ _).alloc (Nat.le_refl _) _
                have b2 := hide (b1.out.trans (hb2.mono b1.out.size))
                have s2 := hide (s1.out.more (.cells #[.int .i64 x] 3))
                have l2 := hide (ri_lit1 w1 x)
                have nf : Hid (∀ k, Value.ownBlock (.slice (some ⟨ne, 0, none⟩) 0 0) = some k → k < w1.heap.size) := hide (fun k hk => (s1.out.own.lt k hk).2)
                refine hK.out _ _ (HS.out _ b2.out) (fun hH2 => ?_)
                clear hK K hb2
                obtain ⟨w2, hw2⟩ : ∃ z9, z9 = (w1.alloc (.cells #[.int .i64 x] 3)) := ⟨_, rfl⟩
                rw [← hw2] at hH2 b2 l2 s2 ⊢
                clear hw2
                generalize w1.heap.size = nb at *
                refine wpAnyH_ready (rs := [4]) (by kernel_rfl) (by simp) ?_
                refine AllReadyH.cons (o := ({ dst := some 48, op := Op.call { callee := Callee.builtin Builtin.append, args := #[Operand.tmp 44, Operand.tmp 47], argTypes := #[38, 38] }, type := 38, pos := _, after := _, guard := _ } : Oper)) rfl (fun K hK => ?_) AllReadyH.nil
                · refine wp_appY W9 w2 (.tmp 44) (.tmp 47) rfl _ [] s2.out rfl none 0 ([] : List Int) rfl (HP.out _ b2.out) PN.out PL.out ?_
                  intro a3 c3 w3 hO3 hg3
                  simp only [List.length_nil, Nat.zero_add, List.nil_append] at hO3 ⊢
                  have b3 := hide hO3.bel
                  have s3 := hide hO3
                  have l3 := hide (ri_grown l2.out hg3 (fun t => Nat.lt_irrefl _ (nf.out nb t.symm)))
                  refine hK.out _ _ (HS.out _ b3.out) (fun hH3 => ?_)
                  clear hK K hO3 hg3
                  refine wpAnyH_ready (rs := [10]) (by kernel_rfl) (by simp) ?_
                  refine AllReadyH.cons (o := ({ dst := some 54, op := Op.call { callee := Callee.builtin Builtin.append, args := #[Operand.tmp 48, Operand.tmp 53], argTypes := #[38, 38] }, type := 38, pos := _, after := _, guard := _ } : Oper)) rfl (fun K hK => ?_) AllReadyH.nil
                  · refine wp_appY W9 w3 (.tmp 48) (.tmp 53) rfl _ ([] : List Int) s3.out rfl (some ⟨nb, 0, none⟩) 1 [x] rfl l3.out (fun t => by cases t) PL1.out ?_
                    intro a4 c4 w4 hO4 hg4
                    have b4 := hide hO4.bel
                    have s4 := hide hO4
                    refine hK.out _ _ (HS.out _ b4.out) (fun hH4 => ?_)
                    clear hK K hO4 hg4
                    refine wpAnyH_ready (rs := [14]) (by kernel_rfl) (by simp) ?_
                    refine AllReadyH.cons (o := ({ dst := some 58, op := Op.call { callee := Callee.builtin Builtin.append, args := #[Operand.tmp 54, Operand.tmp 57], argTypes := #[38, 38] }, type := 38, pos := _, after := _, guard := _ } : Oper)) rfl (fun K hK => ?_) AllReadyH.nil
                    · refine wp_appY W9 w4 (.tmp 54) (.tmp 57) rfl _ (([] : List Int) ++ [x]) s4.out (by simp [go_sem]) none 0 ([] : List Int) (by simp [go_sem]; try rfl) (HD.out _ b4.out) DN.out PL2.out ?_
                      intro a5 c5 w5 hO5 hg5
                      have b5 := hide hO5.bel
                      have s5 := hide hO5
                      refine hK.out _ _ (HS.out _ b5.out) (fun hH5 => ?_)
                      clear hK K hO5 hg5
                      refine wpAnyH_take (i := 15) (oi := ({ dst := some 3, op := Op.assign (Operand.tmp 58), type := 38, pos := _, after := _, guard := _ } : Oper)) (v := ?_) rfl (by kernel_rfl) (by kernel_rfl) (by kernel_rfl) (fun _ _ _ h => h) (Or.inl ⟨by rfl, ?_⟩) (by assumption) ?_
                      rotate_left
                      · (intro wz hSw; (try dsimp only at hSw); go_simp; try with_reducible rfl)
                      simp only [Act.put, List.setIfInBounds_toArray, List.set_cons_zero, List.set_cons_succ]
                      refine wpAnyH_done (by kernel_rfl) ?_ _
                      clear HS
                      go_wp2_with fail
                      exact ⟨⟨i + 1, ([] : List Int) ++ [x] ++ ([] : List Int), by simp, by omega, by first | (simp; done) | (simp; omega) | (simp at *; omega), ⟨by have t := s5.out.base BW.out; simpa using t, HUP.out, HMEM.out⟩⟩, by simp [intOf]; omega⟩
            · go_simp
              have hb1 : Below w0.heap.size w0 (w0.alloc (.cells #[.int .i64 x] 3)) := (Below.refl _ _).alloc (Nat.le_refl _) _
              have b1 := hide (b0.out.trans (hb1.mono b0.out.size))
              have l1 := hide (ri_lit1 w0 x)
              refine hK.out _ _ (HS.out _ b1.out) (fun hH1 => ?_)
              clear hK K hb1
              obtain ⟨w1, hw1⟩ : ∃ z9, z9 = (w0.alloc (.cells #[.int .i64 x] 3)) := ⟨_, rfl⟩
              rw [← hw1] at hH1 b1 l1  ⊢
              clear hw1
              generalize w0.heap.size = nb at *
              refine wpAnyH_ready (rs := [0]) (by kernel_rfl) (by simp) ?_
              refine AllReadyH.cons (o := ({ dst := some 44, op := Op.buildSlice 38 0 #[], type := 38, pos := _, after := _, guard := _ } : Oper)) rfl (fun K hK => ?_) AllReadyH.nil
              · go_simp
                have hb2 : Below w1.heap.size w1 (w1.alloc (.cells #[] 3)) := (Below.refl _ _).alloc (Nat.le_refl _) _
                have b2 := hide (b1.out.trans (hb2.mono b1.out.size))
                have l2 := hide (l1.out.keep' hb2)
                have s2 := hide ((St.lit0 w1).base b1.out)
                refine hK.out _ _ (HS.out _ b2.out) (fun hH2 => ?_)
                clear hK K hb2
                have ne1 : Hid (nb < w1.heap.size) := hide (ri_lt l1.out)
                obtain ⟨w2, hw2⟩ : ∃ z9, z9 = (w1.alloc (.cells #[] 3)) := ⟨_, rfl⟩
                rw [← hw2] at hH2 b2 s2 l2 ⊢
                clear hw2
                obtain ⟨ne, hne⟩ : ∃ z9, z9 = w1.heap.size := ⟨_, rfl⟩
                rw [← hne] at s2 ne1 ⊢
                replace hne := hide hne
                refine wpAnyH_ready (rs := [4]) (by kernel_rfl) (by simp) ?_
                refine AllReadyH.cons (o := ({ dst := some 48, op := Op.call { callee := Callee.builtin Builtin.append, args := #[Operand.tmp 44, Operand.tmp 47], argTypes := #[38, 38] }, type := 38, pos := _, after := _, guard := _ } : Oper)) rfl (fun K hK => ?_) AllReadyH.nil
                · refine wp_appY W9 w2 (.tmp 44) (.tmp 47) rfl _ [] s2.out rfl none 0 ([] : List Int) rfl (HP.out _ b2.out) PN.out PL.out ?_
                  intro a3 c3 w3 hO3 hg3
                  simp only [List.length_nil, Nat.zero_add, List.nil_append] at hO3 ⊢
                  have b3 := hide hO3.bel
                  have s3 := hide hO3
                  have l3 := hide (ri_grown l2.out hg3 (fun t => absurd (Option.some.inj t) (Nat.ne_of_lt ne1.out)))
                  refine hK.out _ _ (HS.out _ b3.out) (fun hH3 => ?_)
                  clear hK K hO3 hg3
                  refine wpAnyH_ready (rs := [10]) (by kernel_rfl) (by simp) ?_
                  refine AllReadyH.cons (o := ({ dst := some 54, op := Op.call { callee := Callee.builtin Builtin.append, args := #[Operand.tmp 48, Operand.tmp 53], argTypes := #[38, 38] }, type := 38, pos := _, after := _, guard := _ } : Oper)) rfl (fun K hK => ?_) AllReadyH.nil
                  · refine wp_appY W9 w3 (.tmp 48) (.tmp 53) rfl _ ([] : List Int) s3.out rfl (some ⟨nb, 0, none⟩) 1 [x] rfl l3.out (fun t => by cases t) PL1.out ?_
                    intro a4 c4 w4 hO4 hg4
                    have b4 := hide hO4.bel
                    have s4 := hide hO4
                    refine hK.out _ _ (HS.out _ b4.out) (fun hH4 => ?_)
                    clear hK K hO4 hg4
                    refine wpAnyH_ready (rs := [14]) (by kernel_rfl) (by simp) ?_
                    refine AllReadyH.cons (o := ({ dst := some 58, op := Op.call { callee := Callee.builtin Builtin.append, args := #[Operand.tmp 54, Operand.tmp 57], argTypes := #[38, 38] }, type := 38, pos := _, after := _, guard := _ } : Oper)) rfl (fun K hK => ?_) AllReadyH.nil
                    · refine wp_appY W9 w4 (.tmp 54) (.tmp 57) rfl _ (([] : List Int) ++ [x]) s4.out (by simp [go_sem]) none 0 ([] : List Int) (by simp [go_sem]; try rfl) (HD.out _ b4.out) DN.out PL2.out ?_
                      intro a5 c5 w5 hO5 hg5
                      have b5 := hide hO5.bel
                      have s5 := hide hO5
                      refine hK.out _ _ (HS.out _ b5.out) (fun hH5 => ?_)
                      clear hK K hO5 hg5
                      refine wpAnyH_take (i := 15) (oi := ({ dst := some 3, op := Op.assign (Operand.tmp 58), type := 38, pos := _, after := _, guard := _ } : Oper)) (v := ?_) rfl (by kernel_rfl) (by kernel_rfl) (by kernel_rfl) (fun _ _ _ h => h) (Or.inl ⟨by rfl, ?_⟩) (by assumption) ?_
                      rotate_left
                      · (intro wz hSw; (try dsimp only at hSw); go_simp; try with_reducible rfl)
                      simp only [Act.put, List.setIfInBounds_toArray, List.set_cons_zero, List.set_cons_succ]
                      refine wpAnyH_done (by kernel_rfl) ?_ _
                      clear HS
                      go_wp2_with fail
                      exact ⟨⟨i + 1, ([] : List Int) ++ [x] ++ ([] : List Int), by simp, by omega, by first | (simp; done) | (simp; omega) | (simp at *; omega), ⟨by have t := s5.out.base BW.out; simpa using t, HUP.out, HMEM.out⟩⟩, by simp [intOf]; omega⟩
          · skip
            go_name_world W9 hW9
            have h9 : Hid (St w W9 (.slice (some ⟨bb, oo, none⟩) out.length cc) out) := hide (by rw [← hW9]; first | exact h4.out.1.drewN _ | exact (h4.out.1.drewN _).drewN _ | exact ((h4.out.1.drewN _).drewN _).drewN _)
            have hc9 : Hid (W9.cell? ⟨ab, ao + i, none⟩ = some (.int .i64 x)) := hide (hW9 ▸ HC.out)
            have HUP : Hid (UpP (out ++ [x] ++ ([] : List Int))) := hide (by have t := insert_up h4.out.2.1 (Nat.le_refl _) h5.out (fun t => absurd t (Nat.lt_irrefl _)); rw [List.take_length, List.drop_length] at t; exact t)
            have HMEM : Hid (∀ y, y ∈ out ++ [x] ++ ([] : List Int) ↔ y ∈ l.take (i + 1)) := hide (fun y => by have t := insert_mem out x out.length y; rw [List.take_length, List.drop_length] at t; rw [t, h4.out.2.2 y, HX.out, List.mem_append]; simp)
            clear hW9 h4 HC h5 HO
            try clear hcell
            have HS : Hid (∀ w', Below W9.heap.size W9 w' → (w'.cell? ⟨ab, ao + i, none⟩ = some (.int .i64 x))) := fun w' h => (h.cell (p := ⟨ab, ao + i, none⟩) (World.block_lt_of_cell? W9 _ hc9.out)).trans hc9.out
            have BW : Hid (Below w.heap.size w W9) := hide h9.out.bel
            have PL : Hid (([] : List Int).length + out.length ≤ 1000000) := hide (by first | (simp; done) | (simp; omega))
            have PL1 : Hid (out.length + [x].length ≤ 1000000) := hide (by first | (simp; done) | (simp; omega))
            have PL2 : Hid ((out ++ [x]).length + ([] : List Int).length ≤ 1000000) := hide (by first | (simp; done) | (simp; omega))
            have hcap := h9.out.cap
            have hnn := h9.out.nn
            have HR9 := hide h9.out.ri
            have HP : Hid (∀ w', Below W9.heap.size W9 w' → Ri w' (some ⟨bb, oo, none⟩) out) := hide (fun w' h => HR9.out.keep' h)
            have HD : Hid (∀ w', Below W9.heap.size W9 w' → Ri w' (if cc = out.length then some ⟨bb, oo, none⟩ else some ⟨bb, oo + out.length, none⟩) ([] : List Int)) := hide (fun w' _ => Ri.nil _ _)
            have PN : Hid ((some ⟨bb, oo, none⟩ : Option Addr) = none → cc = 0 ∧ out = []) := hide (fun e => by cases e)
            have DN : Hid ((if cc = out.length then some (⟨bb, oo, none⟩ : Addr) else some ⟨bb, oo + out.length, none⟩) = none → cc - out.length = 0 ∧ ([] : List Int) = []) := hide (fun e => by split at e <;> cases e)
            have k3 : (out.length : Int) ≤ cc := by omega
            clear h9 HR9 hnn hcap
            refine wp_region_held_drew (S := fun w' => w'.cell? ⟨ab, ao + i, none⟩ = some (.int .i64 x)) (by kernel_rfl) (HS.out _ (Below.refl _ _).drew) (fun hH0 => ?_)
            obtain ⟨w0, hw0⟩ : ∃ w0, w0 = W9.drew := ⟨_, rfl⟩
            rw [← hw0] at hH0 ⊢
            have b0 : Hid (Below W9.heap.size W9 w0) := hw0 ▸ hide (Below.refl _ _).drew
            clear hw0
            refine wpAnyH_take (i := 1) (oi := ({ dst := some 45, op := Op.move (Operand.tmp 3), type := 38, pos := _, after := _, guard := _ } : Oper)) (v := ?_) rfl (by kernel_rfl) (by kernel_rfl) (by kernel_rfl) (fun _ _ _ h => h) (Or.inl ⟨by rfl, ?_⟩) (by assumption) ?_
            rotate_left
            · (intro wz hSw; (try dsimp only at hSw); go_simp; try with_reducible rfl)
            simp only [Act.put, List.setIfInBounds_toArray, List.set_cons_zero, List.set_cons_succ]
            refine wpAnyH_take (i := 2) (oi := ({ dst := some 46, op := Op.move (Operand.tmp 5), type := 3, pos := _, after := _, guard := _ } : Oper)) (v := ?_) rfl (by kernel_rfl) (by kernel_rfl) (by kernel_rfl) (fun _ _ _ h => h) (Or.inl ⟨by rfl, ?_⟩) (by assumption) ?_
            rotate_left
            · (intro wz hSw; (try dsimp only at hSw); go_simp; try with_reducible rfl)
            simp only [Act.put, List.setIfInBounds_toArray, List.set_cons_zero, List.set_cons_succ]
            refine wpAnyH_take (i := 3) (oi := ({ dst := some 47, op := Op.slice 38 (Operand.tmp 45) none (some (Operand.tmp 46)) none, type := 38, pos := _, after := _, guard := _ } : Oper)) (v := ?_) rfl (by kernel_rfl) (by kernel_rfl) (by kernel_rfl) (fun _ _ _ h => h) (Or.inl ⟨by rfl, ?_⟩) (by assumption) ?_
            rotate_left
            · (intro wz hSw; (try dsimp only at hSw); go_simp; try with_reducible rfl)
            simp only [Act.put, List.setIfInBounds_toArray, List.set_cons_zero, List.set_cons_succ]
            refine wpAnyH_take (i := 5) (oi := ({ dst := some 49, op := Op.move (Operand.tmp 0), type := 38, pos := _, after := _, guard := _ } : Oper)) (v := ?_) rfl (by kernel_rfl) (by kernel_rfl) (by kernel_rfl) (fun _ _ _ h => h) (Or.inl ⟨by rfl, ?_⟩) (by assumption) ?_
            rotate_left
            · (intro wz hSw; (try dsimp only at hSw); go_simp; try with_reducible rfl)
            simp only [Act.put, List.setIfInBounds_toArray, List.set_cons_zero, List.set_cons_succ]
            refine wpAnyH_take (i := 6) (oi := ({ dst := some 50, op := Op.move (Operand.tmp 4), type := 3, pos := _, after := _, guard := _ } : Oper)) (v := ?_) rfl (by kernel_rfl) (by kernel_rfl) (by kernel_rfl) (fun _ _ _ h => h) (Or.inl ⟨by rfl, ?_⟩) (by assumption) ?_
            rotate_left
            · (intro wz hSw; (try dsimp only at hSw); go_simp; try with_reducible rfl)
            simp only [Act.put, List.setIfInBounds_toArray, List.set_cons_zero, List.set_cons_succ]
            refine wpAnyH_take (i := 7) (oi := ({ dst := some 51, op := Op.indexAddr 38 (Operand.tmp 49) (Operand.tmp 50), type := 0, pos := _, after := _, guard := _ } : Oper)) (v := ?_) rfl (by kernel_rfl) (by kernel_rfl) (by kernel_rfl) (fun _ _ _ h => h) (Or.inl ⟨by rfl, ?_⟩) (by assumption) ?_
            rotate_left
            · (intro wz hSw; (try dsimp only at hSw); go_simp; try with_reducible rfl)
            simp only [Act.put, List.setIfInBounds_toArray, List.set_cons_zero, List.set_cons_succ]
            refine wpAnyH_take (i := 8) (oi := ({ dst := some 52, op := Op.load 3 (Operand.tmp 51), type := 3, pos := _, after := _, guard := _ } : Oper)) (v := ?_) rfl (by kernel_rfl) (by kernel_rfl) (by kernel_rfl) (fun _ _ _ h => h) (Or.inl ⟨by rfl, ?_⟩) (by assumption) ?_
            rotate_left
            · (intro wz hSw; (try dsimp only at hSw); go_simp; try with_reducible rfl)
            simp only [Act.put, List.setIfInBounds_toArray, List.set_cons_zero, List.set_cons_succ]
            refine wpAnyH_take (i := 11) (oi := ({ dst := some 55, op := Op.move (Operand.tmp 3), type := 38, pos := _, after := _, guard := _ } : Oper)) (v := ?_) rfl (by kernel_rfl) (by kernel_rfl) (by kernel_rfl) (fun _ _ _ h => h) (Or.inl ⟨by rfl, ?_⟩) (by assumption) ?_
            rotate_left
            · (intro wz hSw; (try dsimp only at hSw); go_simp; try with_reducible rfl)
            simp only [Act.put, List.setIfInBounds_toArray, List.set_cons_zero, List.set_cons_succ]
            refine wpAnyH_take (i := 12) (oi := ({ dst := some 56, op := Op.move (Operand.tmp 5), type := 3, pos := _, after := _, guard := _ } : Oper)) (v := ?_) rfl (by kernel_rfl) (by kernel_rfl) (by kernel_rfl) (fun _ _ _ h => h) (Or.inl ⟨by rfl, ?_⟩) (by assumption) ?_
            rotate_left
            · (intro wz hSw; (try dsimp only at hSw); go_simp; try with_reducible rfl)
            simp only [Act.put, List.setIfInBounds_toArray, List.set_cons_zero, List.set_cons_succ]
            refine wpAnyH_take (i := 13) (oi := ({ dst := some 57, op := Op.slice 38 (Operand.tmp 55) (some (Operand.tmp 56)) none none, type := 38, pos := _, after := _, guard := _ } : Oper)) (v := ?_) rfl (by kernel_rfl) (by kernel_rfl) (by kernel_rfl) (fun _ _ _ h => h) (Or.inl ⟨by rfl, ?_⟩) (by assumption) ?_
            rotate_left
            · (intro wz hSw; (try dsimp only at hSw); go_simp; try with_reducible rfl)
            simp only [Act.put, List.setIfInBounds_toArray, List.set_cons_zero, List.set_cons_succ]
            refine wpAnyH_ready (rs := [0, 9]) (by kernel_rfl) (by simp) ?_
            refine AllReadyH.cons (o := ({ dst := some 44, op := Op.buildSlice 38 0 #[], type := 38, pos := _, after := _, guard := _ } : Oper)) rfl (fun K hK => ?_) (AllReadyH.cons (o := ({ dst := some 53, op := Op.buildSlice 38 1 #[(0, Operand.tmp 52)], type := 38, pos := _, after := _, guard := _ } : Oper)) rfl (fun K hK => ?_) AllReadyH.nil)
            · go_simp
              have hb1 : Below w0.heap.size w0 (w0.alloc (.cells #[] 3)) := (Below.refl _ _).alloc (Nat.le_refl _) _
              have b1 := hide (b0.out.trans (hb1.mono b0.out.size))
              have s1 := hide ((St.lit0 w0).base b0.out)
              refine hK.out _ _ (HS.out _ b1.out) (fun hH1 => ?_)
              clear hK K hb1
              obtain ⟨w1, hw1⟩ : ∃ z9, z9 = (w0.alloc (.cells #[] 3)) := ⟨_, rfl⟩
              rw [← hw1] at hH1 b1 s1  ⊢
              clear hw1
              obtain ⟨ne, hne⟩ : ∃ z9, z9 = w0.heap.size := ⟨_, rfl⟩
              rw [← hne] at s1  ⊢
              replace hne := hide hne
              have ne0 : Hid (ne < w1.heap.size) := hide (s1.out.own.lt ne rfl).2
              refine wpAnyH_ready (rs := [4, 9]) (by kernel_rfl) (by simp) ?_
              refine AllReadyH.cons (o := ({ dst := some 48, op := Op.call { callee := Callee.builtin Builtin.append, args := #[Operand.tmp 44, Operand.tmp 47], argTypes := #[38, 38] }, type := 38, pos := _, after := _, guard := _ } : Oper)) rfl (fun K hK => ?_) (AllReadyH.cons (o := ({ dst := some 53, op := Op.buildSlice 38 1 #[(0, Operand.tmp 52)], type := 38, pos := _, after := _, guard := _ } : Oper)) rfl (fun K hK => ?_) AllReadyH.nil)
              · refine wp_appY W9 w1 (.tmp 44) (.tmp 47) rfl _ [] s1.out rfl (some ⟨bb, oo, none⟩) cc out rfl (HP.out _ b1.out) PN.out PL.out ?_
                intro a2 c2 w2 hO2 hg2
                simp only [List.length_nil, Nat.zero_add, List.nil_append] at hO2 ⊢
                have b2 := hide hO2.bel
                have s2 := hide hO2
                refine hK.out _ _ (HS.out _ b2.out) (fun hH2 => ?_)
                clear hK K hO2 hg2
                refine wpAnyH_ready (rs := [9]) (by kernel_rfl) (by simp) ?_
                refine AllReadyH.cons (o := ({ dst := some 53, op := Op.buildSlice 38 1 #[(0, Operand.tmp 52)], type := 38, pos := _, after := _, guard := _ } : Oper)) rfl (fun K hK => ?_) AllReadyH.nil
                · go_simp
                  have hb3 : Below w2.heap.size w2 (w2.alloc (.cells #[.int .i64 x] 3)) := (Below.refl _ _).alloc (Nat.le_refl _) _
                  have b3 := hide (b2.out.trans (hb3.mono b2.out.size))
                  have s3 := hide (s2.out.more (.cells #[.int .i64 x] 3))
                  have l3 := hide (ri_lit1 w2 x)
                  have nf : Hid (∀ k, Value.ownBlock (.slice a2 out.length c2) = some k → k < w2.heap.size) := hide (fun k hk => (s2.out.own.lt k hk).2)
                  refine hK.out _ _ (HS.out _ b3.out) (fun hH3 => ?_)
                  clear hK K hb3
                  obtain ⟨w3, hw3⟩ : ∃ z9, z9 = (w2.alloc (.cells #[.int .i64 x] 3)) := ⟨_, rfl⟩
                  rw [← hw3] at hH3 b3 l3 s3 ⊢
                  clear hw3
                  generalize w2.heap.size = nb at *
                  refine wpAnyH_ready (rs := [10]) (by kernel_rfl) (by simp) ?_
                  refine AllReadyH.cons (o := ({ dst := some 54, op := Op.call { callee := Callee.builtin Builtin.append, args := #[Operand.tmp 48, Operand.tmp 53], argTypes := #[38, 38] }, type := 38, pos := _, after := _, guard := _ } : Oper)) rfl (fun K hK => ?_) AllReadyH.nil
                  · refine wp_appY W9 w3 (.tmp 48) (.tmp 53) rfl _ out s3.out rfl (some ⟨nb, 0, none⟩) 1 [x] rfl l3.out (fun t => by cases t) PL1.out ?_
                    intro a4 c4 w4 hO4 hg4
                    have b4 := hide hO4.bel
                    have s4 := hide hO4
                    refine hK.out _ _ (HS.out _ b4.out) (fun hH4 => ?_)
                    clear hK K hO4 hg4
                    refine wpAnyH_ready (rs := [14]) (by kernel_rfl) (by simp) ?_
                    refine AllReadyH.cons (o := ({ dst := some 58, op := Op.call { callee := Callee.builtin Builtin.append, args := #[Operand.tmp 54, Operand.tmp 57], argTypes := #[38, 38] }, type := 38, pos := _, after := _, guard := _ } : Oper)) rfl (fun K hK => ?_) AllReadyH.nil
                    · refine wp_appY W9 w4 (.tmp 54) (.tmp 57) rfl _ (out ++ [x]) s4.out (by simp [go_sem]) (if cc = out.length then some ⟨bb, oo, none⟩ else some ⟨bb, oo + out.length, none⟩) (cc - out.length) ([] : List Int) (by simp [go_sem]; try rfl) (HD.out _ b4.out) DN.out PL2.out ?_
                      intro a5 c5 w5 hO5 hg5
                      have b5 := hide hO5.bel
                      have s5 := hide hO5
                      refine hK.out _ _ (HS.out _ b5.out) (fun hH5 => ?_)
                      clear hK K hO5 hg5
                      refine wpAnyH_take (i := 15) (oi := ({ dst := some 3, op := Op.assign (Operand.tmp 58), type := 38, pos := _, after := _, guard := _ } : Oper)) (v := ?_) rfl (by kernel_rfl) (by kernel_rfl) (by kernel_rfl) (fun _ _ _ h => h) (Or.inl ⟨by rfl, ?_⟩) (by assumption) ?_
                      rotate_left
                      · (intro wz hSw; (try dsimp only at hSw); go_simp; try with_reducible rfl)
                      simp only [Act.put, List.setIfInBounds_toArray, List.set_cons_zero, List.set_cons_succ]
                      refine wpAnyH_done (by kernel_rfl) ?_ _
                      clear HS
                      go_wp2_with fail
                      exact ⟨⟨i + 1, out ++ [x] ++ ([] : List Int), by simp, by omega, by first | (simp; done) | (simp; omega) | (simp at *; omega), ⟨by have t := s5.out.base BW.out; simpa using t, HUP.out, HMEM.out⟩⟩, by simp [intOf]; omega⟩
              · go_simp
                have hb2 : Below w1.heap.size w1 (w1.alloc (.cells #[.int .i64 x] 3)) := (Below.refl _ _).alloc (Nat.le_refl _) _
                have b2 := hide (b1.out.trans (hb2.mono b1.out.size))
                have s2 := hide (s1.out.more (.cells #[.int .i64 x] 3))
                have l2 := hide (ri_lit1 w1 x)
                have nf : Hid (∀ k, Value.ownBlock (.slice (some ⟨ne, 0, none⟩) 0 0) = some k → k < w1.heap.size) := hide (fun k hk => (s1.out.own.lt k hk).2)
                refine hK.out _ _ (HS.out _ b2.out) (fun hH2 => ?_)
                clear hK K hb2
                obtain ⟨w2, hw2⟩ : ∃ z9, z9 = (w1.alloc (.cells #[.int .i64 x] 3)) := ⟨_, rfl⟩
                rw [← hw2] at hH2 b2 l2 s2 ⊢
                clear hw2
                generalize w1.heap.size = nb at *
                refine wpAnyH_ready (rs := [4]) (by kernel_rfl) (by simp) ?_
                refine AllReadyH.cons (o := ({ dst := some 48, op := Op.call { callee := Callee.builtin Builtin.append, args := #[Operand.tmp 44, Operand.tmp 47], argTypes := #[38, 38] }, type := 38, pos := _, after := _, guard := _ } : Oper)) rfl (fun K hK => ?_) AllReadyH.nil
                · refine wp_appY W9 w2 (.tmp 44) (.tmp 47) rfl _ [] s2.out rfl (some ⟨bb, oo, none⟩) cc out rfl (HP.out _ b2.out) PN.out PL.out ?_
                  intro a3 c3 w3 hO3 hg3
                  simp only [List.length_nil, Nat.zero_add, List.nil_append] at hO3 ⊢
                  have b3 := hide hO3.bel
                  have s3 := hide hO3
                  have l3 := hide (ri_grown l2.out hg3 (fun t => Nat.lt_irrefl _ (nf.out nb t.symm)))
                  refine hK.out _ _ (HS.out _ b3.out) (fun hH3 => ?_)
                  clear hK K hO3 hg3
                  refine wpAnyH_ready (rs := [10]) (by kernel_rfl) (by simp) ?_
                  refine AllReadyH.cons (o := ({ dst := some 54, op := Op.call { callee := Callee.builtin Builtin.append, args := #[Operand.tmp 48, Operand.tmp 53], argTypes := #[38, 38] }, type := 38, pos := _, after := _, guard := _ } : Oper)) rfl (fun K hK => ?_) AllReadyH.nil
                  · refine wp_appY W9 w3 (.tmp 48) (.tmp 53) rfl _ out s3.out rfl (some ⟨nb, 0, none⟩) 1 [x] rfl l3.out (fun t => by cases t) PL1.out ?_
                    intro a4 c4 w4 hO4 hg4
                    have b4 := hide hO4.bel
                    have s4 := hide hO4
                    refine hK.out _ _ (HS.out _ b4.out) (fun hH4 => ?_)
                    clear hK K hO4 hg4
                    refine wpAnyH_ready (rs := [14]) (by kernel_rfl) (by simp) ?_
                    refine AllReadyH.cons (o := ({ dst := some 58, op := Op.call { callee := Callee.builtin Builtin.append, args := #[Operand.tmp 54, Operand.tmp 57], argTypes := #[38, 38] }, type := 38, pos := _, after := _, guard := _ } : Oper)) rfl (fun K hK => ?_) AllReadyH.nil
                    · refine wp_appY W9 w4 (.tmp 54) (.tmp 57) rfl _ (out ++ [x]) s4.out (by simp [go_sem]) (if cc = out.length then some ⟨bb, oo, none⟩ else some ⟨bb, oo + out.length, none⟩) (cc - out.length) ([] : List Int) (by simp [go_sem]; try rfl) (HD.out _ b4.out) DN.out PL2.out ?_
                      intro a5 c5 w5 hO5 hg5
                      have b5 := hide hO5.bel
                      have s5 := hide hO5
                      refine hK.out _ _ (HS.out _ b5.out) (fun hH5 => ?_)
                      clear hK K hO5 hg5
                      refine wpAnyH_take (i := 15) (oi := ({ dst := some 3, op := Op.assign (Operand.tmp 58), type := 38, pos := _, after := _, guard := _ } : Oper)) (v := ?_) rfl (by kernel_rfl) (by kernel_rfl) (by kernel_rfl) (fun _ _ _ h => h) (Or.inl ⟨by rfl, ?_⟩) (by assumption) ?_
                      rotate_left
                      · (intro wz hSw; (try dsimp only at hSw); go_simp; try with_reducible rfl)
                      simp only [Act.put, List.setIfInBounds_toArray, List.set_cons_zero, List.set_cons_succ]
                      refine wpAnyH_done (by kernel_rfl) ?_ _
                      clear HS
                      go_wp2_with fail
                      exact ⟨⟨i + 1, out ++ [x] ++ ([] : List Int), by simp, by omega, by first | (simp; done) | (simp; omega) | (simp at *; omega), ⟨by have t := s5.out.base BW.out; simpa using t, HUP.out, HMEM.out⟩⟩, by simp [intOf]; omega⟩
            · go_simp
              have hb1 : Below w0.heap.size w0 (w0.alloc (.cells #[.int .i64 x] 3)) := (Below.refl _ _).alloc (Nat.le_refl _) _
              have b1 := hide (b0.out.trans (hb1.mono b0.out.size))
              have l1 := hide (ri_lit1 w0 x)
              refine hK.out _ _ (HS.out _ b1.out) (fun hH1 => ?_)
              clear hK K hb1
              obtain ⟨w1, hw1⟩ : ∃ z9, z9 = (w0.alloc (.cells #[.int .i64 x] 3)) := ⟨_, rfl⟩
              rw [← hw1] at hH1 b1 l1  ⊢
              clear hw1
              generalize w0.heap.size = nb at *
              refine wpAnyH_ready (rs := [0]) (by kernel_rfl) (by simp) ?_
              refine AllReadyH.cons (o := ({ dst := some 44, op := Op.buildSlice 38 0 #[], type := 38, pos := _, after := _, guard := _ } : Oper)) rfl (fun K hK => ?_) AllReadyH.nil
              · go_simp
                have hb2 : Below w1.heap.size w1 (w1.alloc (.cells #[] 3)) := (Below.refl _ _).alloc (Nat.le_refl _) _
                have b2 := hide (b1.out.trans (hb2.mono b1.out.size))
                have l2 := hide (l1.out.keep' hb2)
                have s2 := hide ((St.lit0 w1).base b1.out)
                refine hK.out _ _ (HS.out _ b2.out) (fun hH2 => ?_)
                clear hK K hb2
                have ne1 : Hid (nb < w1.heap.size) := hide (ri_lt l1.out)
                obtain ⟨w2, hw2⟩ : ∃ z9, z9 = (w1.alloc (.cells #[] 3)) := ⟨_, rfl⟩
                rw [← hw2] at hH2 b2 s2 l2 ⊢
                clear hw2
                obtain ⟨ne, hne⟩ : ∃ z9, z9 = w1.heap.size := ⟨_, rfl⟩
                rw [← hne] at s2 ne1 ⊢
                replace hne := hide hne
                refine wpAnyH_ready (rs := [4]) (by kernel_rfl) (by simp) ?_
                refine AllReadyH.cons (o := ({ dst := some 48, op := Op.call { callee := Callee.builtin Builtin.append, args := #[Operand.tmp 44, Operand.tmp 47], argTypes := #[38, 38] }, type := 38, pos := _, after := _, guard := _ } : Oper)) rfl (fun K hK => ?_) AllReadyH.nil
                · refine wp_appY W9 w2 (.tmp 44) (.tmp 47) rfl _ [] s2.out rfl (some ⟨bb, oo, none⟩) cc out rfl (HP.out _ b2.out) PN.out PL.out ?_
                  intro a3 c3 w3 hO3 hg3
                  simp only [List.length_nil, Nat.zero_add, List.nil_append] at hO3 ⊢
                  have b3 := hide hO3.bel
                  have s3 := hide hO3
                  have l3 := hide (ri_grown l2.out hg3 (fun t => absurd (Option.some.inj t) (Nat.ne_of_lt ne1.out)))
                  refine hK.out _ _ (HS.out _ b3.out) (fun hH3 => ?_)
                  clear hK K hO3 hg3
                  refine wpAnyH_ready (rs := [10]) (by kernel_rfl) (by simp) ?_
                  refine AllReadyH.cons (o := ({ dst := some 54, op := Op.call { callee := Callee.builtin Builtin.append, args := #[Operand.tmp 48, Operand.tmp 53], argTypes := #[38, 38] }, type := 38, pos := _, after := _, guard := _ } : Oper)) rfl (fun K hK => ?_) AllReadyH.nil
                  · refine wp_appY W9 w3 (.tmp 48) (.tmp 53) rfl _ out s3.out rfl (some ⟨nb, 0, none⟩) 1 [x] rfl l3.out (fun t => by cases t) PL1.out ?_
                    intro a4 c4 w4 hO4 hg4
                    have b4 := hide hO4.bel
                    have s4 := hide hO4
                    refine hK.out _ _ (HS.out _ b4.out) (fun hH4 => ?_)
                    clear hK K hO4 hg4
                    refine wpAnyH_ready (rs := [14]) (by kernel_rfl) (by simp) ?_
                    refine AllReadyH.cons (o := ({ dst := some 58, op := Op.call { callee := Callee.builtin Builtin.append, args := #[Operand.tmp 54, Operand.tmp 57], argTypes := #[38, 38] }, type := 38, pos := _, after := _, guard := _ } : Oper)) rfl (fun K hK => ?_) AllReadyH.nil
                    · refine wp_appY W9 w4 (.tmp 54) (.tmp 57) rfl _ (out ++ [x]) s4.out (by simp [go_sem]) (if cc = out.length then some ⟨bb, oo, none⟩ else some ⟨bb, oo + out.length, none⟩) (cc - out.length) ([] : List Int) (by simp [go_sem]; try rfl) (HD.out _ b4.out) DN.out PL2.out ?_
                      intro a5 c5 w5 hO5 hg5
                      have b5 := hide hO5.bel
                      have s5 := hide hO5
                      refine hK.out _ _ (HS.out _ b5.out) (fun hH5 => ?_)
                      clear hK K hO5 hg5
                      refine wpAnyH_take (i := 15) (oi := ({ dst := some 3, op := Op.assign (Operand.tmp 58), type := 38, pos := _, after := _, guard := _ } : Oper)) (v := ?_) rfl (by kernel_rfl) (by kernel_rfl) (by kernel_rfl) (fun _ _ _ h => h) (Or.inl ⟨by rfl, ?_⟩) (by assumption) ?_
                      rotate_left
                      · (intro wz hSw; (try dsimp only at hSw); go_simp; try with_reducible rfl)
                      simp only [Act.put, List.setIfInBounds_toArray, List.set_cons_zero, List.set_cons_succ]
                      refine wpAnyH_done (by kernel_rfl) ?_ _
                      clear HS
                      go_wp2_with fail
                      exact ⟨⟨i + 1, out ++ [x] ++ ([] : List Int), by simp, by omega, by first | (simp; done) | (simp; omega) | (simp at *; omega), ⟨by have t := s5.out.base BW.out; simpa using t, HUP.out, HMEM.out⟩⟩, by simp [intOf]; omega⟩
        · have hkl : k < out.length := by omega
          have hkl' : (k : Int) < out.length := by omega
          obtain ⟨bb, oo, rfl, hcell2⟩ := HO.out.at hkl
          by_cases hlx : out.getD k 0 < x
          · have H5 : Hid (∀ j, j < k + 1 → out.getD j 0 < x) := fun j hj => by
              by_cases e : j = k
              · subst e; exact hlx
              · exact h5.out j (by omega)
            have hb : decide (out.getD k 0 < x) = true := decide_eq_true hlx
            clear hlx
            generalize out.getD k 0 = y at *
            go_wp2
            go_quiet (fail)
            go_wp2
            exact ⟨⟨k + 1, n + nq, rfl, by simp, by omega, H5.out⟩, by simp [intOf]; omega⟩
          · have hb : decide (out.getD k 0 < x) = false := decide_eq_false hlx
            have HY := hide hlx
            clear hlx
            by_cases hex : out.getD k 0 = x
            · have HM : Hid (x ∈ out) := hide (by rw [← hex]; simp [hkl])
              clear HY
              rw [hex] at hb hcell2
              have hbe : (x == x) = true := beq_self_eq_true _
              clear hex
              go_wp2
              go_quiet (fail)
              go_wp2
              go_quiet (fail)
              go_wp2
              exact ⟨⟨i + 1, out, by simp, by omega, by omega, ⟨h4.out.1.drewN _, h4.out.2.1, fun y => by rw [h4.out.2.2 y, HX.out, List.mem_append]; constructor; exact .inl; rintro (h | h); exact h; simp at h; subst h; exact (h4.out.2.2 _).1 HM.out⟩⟩, by simp [intOf]; omega⟩
            · have HY2 : Hid (k < out.length → x < out.getD k 0) := hide (fun _ => by have := HY.out; omega)
              have HG := hide hcell2
              have hbe : (out.getD k 0 == x) = false := beq_eq_false_iff_ne.2 hex
              clear HY hex
              generalize hgy : out.getD k 0 = y at hb hbe hcell2
              go_wp2
              go_quiet (fail)
              go_wp2
              go_quiet (fail)
              go_upto_region 9 with fail
              clear hb hbe
              go_name_world W9 hW9
              have h9 : Hid (St w W9 (.slice (some ⟨bb, oo, none⟩) out.length cc) out) := hide (by rw [← hW9]; first | exact h4.out.1.drewN _ | exact (h4.out.1.drewN _).drewN _ | exact ((h4.out.1.drewN _).drewN _).drewN _)
              have hc9 : Hid (W9.cell? ⟨ab, ao + i, none⟩ = some (.int .i64 x)) := hide (hW9 ▸ HC.out)
              have HUP : Hid (UpP (out.take k ++ [x] ++ out.drop k)) := hide (insert_up h4.out.2.1 hk h5.out HY2.out)
              have HMEM : Hid (∀ y, y ∈ out.take k ++ [x] ++ out.drop k ↔ y ∈ l.take (i + 1)) := hide (fun y => by rw [insert_mem, h4.out.2.2 y, HX.out, List.mem_append]; simp)
              clear hW9 h4 HC h5 HY2 HO
              try clear hcell
              try clear hcell2
              obtain ⟨pk, dk, rfl, rfl, h10, h11⟩ : ∃ pk dk, out = pk ++ dk ∧ k = pk.length ∧ out.take k = pk ∧ out.drop k = dk := ⟨out.take k, out.drop k, (List.take_append_drop k out).symm, by rw [List.length_take]; omega, rfl, rfl⟩
              rw [h10, h11] at HUP HMEM
              clear h10 h11
              rw [List.length_append] at *
              have HS : Hid (∀ w', Below W9.heap.size W9 w' → (w'.cell? ⟨ab, ao + i, none⟩ = some (.int .i64 x))) := fun w' h => (h.cell (p := ⟨ab, ao + i, none⟩) (World.block_lt_of_cell? W9 _ hc9.out)).trans hc9.out
              have BW : Hid (Below w.heap.size w W9) := hide h9.out.bel
              have PL : Hid (([] : List Int).length + pk.length ≤ 1000000) := hide (by first | (simp; done) | (simp; omega))
              have PL1 : Hid (pk.length + [x].length ≤ 1000000) := hide (by first | (simp; done) | (simp; omega))
              have PL2 : Hid ((pk ++ [x]).length + dk.length ≤ 1000000) := hide (by first | (simp; done) | (simp; omega))
              have hcap := h9.out.cap
              have hnn := h9.out.nn
              have HR9 := hide h9.out.ri
              rw [List.length_append] at hcap
              have HP : Hid (∀ w', Below W9.heap.size W9 w' → Ri w' (some ⟨bb, oo, none⟩) pk) := hide (fun w' h => by have t := ri_takeN (HR9.out.keep' h) pk.length; rw [List.take_left] at t; exact t)
              have HD : Hid (∀ w', Below W9.heap.size W9 w' → Ri w' (if cc = pk.length then some ⟨bb, oo, none⟩ else some ⟨bb, oo + pk.length, none⟩) dk) := hide (fun w' h => by
                have t := ri_dropN (HR9.out.keep' h) pk.length
                rw [List.drop_left] at t
                split
                · rename_i e
                  have : dk = [] := List.eq_nil_of_length_eq_zero (by omega)
                  rw [this]; exact Ri.nil _ _
                · exact t)
              have PN : Hid ((some ⟨bb, oo, none⟩ : Option Addr) = none → cc = 0 ∧ pk = []) := hide (fun e => by cases e)
              have DN : Hid ((if cc = pk.length then some (⟨bb, oo, none⟩ : Addr) else some ⟨bb, oo + pk.length, none⟩) = none → cc - pk.length = 0 ∧ dk = []) := hide (fun e => by split at e <;> cases e)
              have DL : Hid (True) := hide trivial
              have k1 : (pk.length : Int) ≤ pk.length + dk.length := by omega
              have k2 : ((pk.length : Int) + dk.length) ≤ cc := by omega
              have k3 : (pk.length : Int) ≤ cc := by omega
              clear h9 HR9 hnn
              refine wp_region_held_drew (S := fun w' => w'.cell? ⟨ab, ao + i, none⟩ = some (.int .i64 x)) (by kernel_rfl) (HS.out _ (Below.refl _ _).drew) (fun hH0 => ?_)
              obtain ⟨w0, hw0⟩ : ∃ w0, w0 = W9.drew := ⟨_, rfl⟩
              rw [← hw0] at hH0 ⊢
              have b0 : Hid (Below W9.heap.size W9 w0) := hw0 ▸ hide (Below.refl _ _).drew
              clear hw0
              refine wpAnyH_take (i := 1) (oi := ({ dst := some 45, op := Op.move (Operand.tmp 3), type := 38, pos := _, after := _, guard := _ } : Oper)) (v := ?_) rfl (by kernel_rfl) (by kernel_rfl) (by kernel_rfl) (fun _ _ _ h => h) (Or.inl ⟨by rfl, ?_⟩) (by assumption) ?_
              rotate_left
              · (intro wz hSw; (try dsimp only at hSw); go_simp; try with_reducible rfl)
              simp only [Act.put, List.setIfInBounds_toArray, List.set_cons_zero, List.set_cons_succ]
              refine wpAnyH_take (i := 2) (oi := ({ dst := some 46, op := Op.move (Operand.tmp 5), type := 3, pos := _, after := _, guard := _ } : Oper)) (v := ?_) rfl (by kernel_rfl) (by kernel_rfl) (by kernel_rfl) (fun _ _ _ h => h) (Or.inl ⟨by rfl, ?_⟩) (by assumption) ?_
              rotate_left
              · (intro wz hSw; (try dsimp only at hSw); go_simp; try with_reducible rfl)
              simp only [Act.put, List.setIfInBounds_toArray, List.set_cons_zero, List.set_cons_succ]
              refine wpAnyH_take (i := 3) (oi := ({ dst := some 47, op := Op.slice 38 (Operand.tmp 45) none (some (Operand.tmp 46)) none, type := 38, pos := _, after := _, guard := _ } : Oper)) (v := ?_) rfl (by kernel_rfl) (by kernel_rfl) (by kernel_rfl) (fun _ _ _ h => h) (Or.inl ⟨by rfl, ?_⟩) (by assumption) ?_
              rotate_left
              · (intro wz hSw; (try dsimp only at hSw); go_simp; try with_reducible rfl)
              simp only [Act.put, List.setIfInBounds_toArray, List.set_cons_zero, List.set_cons_succ]
              refine wpAnyH_take (i := 5) (oi := ({ dst := some 49, op := Op.move (Operand.tmp 0), type := 38, pos := _, after := _, guard := _ } : Oper)) (v := ?_) rfl (by kernel_rfl) (by kernel_rfl) (by kernel_rfl) (fun _ _ _ h => h) (Or.inl ⟨by rfl, ?_⟩) (by assumption) ?_
              rotate_left
              · (intro wz hSw; (try dsimp only at hSw); go_simp; try with_reducible rfl)
              simp only [Act.put, List.setIfInBounds_toArray, List.set_cons_zero, List.set_cons_succ]
              refine wpAnyH_take (i := 6) (oi := ({ dst := some 50, op := Op.move (Operand.tmp 4), type := 3, pos := _, after := _, guard := _ } : Oper)) (v := ?_) rfl (by kernel_rfl) (by kernel_rfl) (by kernel_rfl) (fun _ _ _ h => h) (Or.inl ⟨by rfl, ?_⟩) (by assumption) ?_
              rotate_left
              · (intro wz hSw; (try dsimp only at hSw); go_simp; try with_reducible rfl)
              simp only [Act.put, List.setIfInBounds_toArray, List.set_cons_zero, List.set_cons_succ]
              refine wpAnyH_take (i := 7) (oi := ({ dst := some 51, op := Op.indexAddr 38 (Operand.tmp 49) (Operand.tmp 50), type := 0, pos := _, after := _, guard := _ } : Oper)) (v := ?_) rfl (by kernel_rfl) (by kernel_rfl) (by kernel_rfl) (fun _ _ _ h => h) (Or.inl ⟨by rfl, ?_⟩) (by assumption) ?_
              rotate_left
              · (intro wz hSw; (try dsimp only at hSw); go_simp; try with_reducible rfl)
              simp only [Act.put, List.setIfInBounds_toArray, List.set_cons_zero, List.set_cons_succ]
              refine wpAnyH_take (i := 8) (oi := ({ dst := some 52, op := Op.load 3 (Operand.tmp 51), type := 3, pos := _, after := _, guard := _ } : Oper)) (v := ?_) rfl (by kernel_rfl) (by kernel_rfl) (by kernel_rfl) (fun _ _ _ h => h) (Or.inl ⟨by rfl, ?_⟩) (by assumption) ?_
              rotate_left
              · (intro wz hSw; (try dsimp only at hSw); go_simp; try with_reducible rfl)
              simp only [Act.put, List.setIfInBounds_toArray, List.set_cons_zero, List.set_cons_succ]
              refine wpAnyH_take (i := 11) (oi := ({ dst := some 55, op := Op.move (Operand.tmp 3), type := 38, pos := _, after := _, guard := _ } : Oper)) (v := ?_) rfl (by kernel_rfl) (by kernel_rfl) (by kernel_rfl) (fun _ _ _ h => h) (Or.inl ⟨by rfl, ?_⟩) (by assumption) ?_
              rotate_left
              · (intro wz hSw; (try dsimp only at hSw); go_simp; try with_reducible rfl)
              simp only [Act.put, List.setIfInBounds_toArray, List.set_cons_zero, List.set_cons_succ]
              refine wpAnyH_take (i := 12) (oi := ({ dst := some 56, op := Op.move (Operand.tmp 5), type := 3, pos := _, after := _, guard := _ } : Oper)) (v := ?_) rfl (by kernel_rfl) (by kernel_rfl) (by kernel_rfl) (fun _ _ _ h => h) (Or.inl ⟨by rfl, ?_⟩) (by assumption) ?_
              rotate_left
              · (intro wz hSw; (try dsimp only at hSw); go_simp; try with_reducible rfl)
              simp only [Act.put, List.setIfInBounds_toArray, List.set_cons_zero, List.set_cons_succ]
              refine wpAnyH_take (i := 13) (oi := ({ dst := some 57, op := Op.slice 38 (Operand.tmp 55) (some (Operand.tmp 56)) none none, type := 38, pos := _, after := _, guard := _ } : Oper)) (v := ?_) rfl (by kernel_rfl) (by kernel_rfl) (by kernel_rfl) (fun _ _ _ h => h) (Or.inl ⟨by rfl, ?_⟩) (by assumption) ?_
              rotate_left
              · (intro wz hSw; (try dsimp only at hSw); go_simp; try with_reducible rfl)
              simp only [Act.put, List.setIfInBounds_toArray, List.set_cons_zero, List.set_cons_succ]
              refine wpAnyH_ready (rs := [0, 9]) (by kernel_rfl) (by simp) ?_
              refine AllReadyH.cons (o := ({ dst := some 44, op := Op.buildSlice 38 0 #[], type := 38, pos := _, after := _, guard := _ } : Oper)) rfl (fun K hK => ?_) (AllReadyH.cons (o := ({ dst := some 53, op := Op.buildSlice 38 1 #[(0, Operand.tmp 52)], type := 38, pos := _, after := _, guard := _ } : Oper)) rfl (fun K hK => ?_) AllReadyH.nil)
              · go_simp
                have hb1 : Below w0.heap.size w0 (w0.alloc (.cells #[] 3)) := (Below.refl _ _).alloc (Nat.le_refl _) _
                have b1 := hide (b0.out.trans (hb1.mono b0.out.size))
                have s1 := hide ((St.lit0 w0).base b0.out)
                refine hK.out _ _ (HS.out _ b1.out) (fun hH1 => ?_)
                clear hK K hb1
                obtain ⟨w1, hw1⟩ : ∃ z9, z9 = (w0.alloc (.cells #[] 3)) := ⟨_, rfl⟩
                rw [← hw1] at hH1 b1 s1  ⊢
                clear hw1
                obtain ⟨ne, hne⟩ : ∃ z9, z9 = w0.heap.size := ⟨_, rfl⟩
                rw [← hne] at s1  ⊢
                replace hne := hide hne
                have ne0 : Hid (ne < w1.heap.size) := hide (s1.out.own.lt ne rfl).2
                refine wpAnyH_ready (rs := [4, 9]) (by kernel_rfl) (by simp) ?_
                refine AllReadyH.cons (o := ({ dst := some 48, op := Op.call { callee := Callee.builtin Builtin.append, args := #[Operand.tmp 44, Operand.tmp 47], argTypes := #[38, 38] }, type := 38, pos := _, after := _, guard := _ } : Oper)) rfl (fun K hK => ?_) (AllReadyH.cons (o := ({ dst := some 53, op := Op.buildSlice 38 1 #[(0, Operand.tmp 52)], type := 38, pos := _, after := _, guard := _ } : Oper)) rfl (fun K hK => ?_) AllReadyH.nil)
                · refine wp_appY W9 w1 (.tmp 44) (.tmp 47) rfl _ [] s1.out rfl (some ⟨bb, oo, none⟩) cc pk rfl (HP.out _ b1.out) PN.out PL.out ?_
                  intro a2 c2 w2 hO2 hg2
                  simp only [List.length_nil, Nat.zero_add, List.nil_append] at hO2 ⊢
                  have b2 := hide hO2.bel
                  have s2 := hide hO2
                  refine hK.out _ _ (HS.out _ b2.out) (fun hH2 => ?_)
                  clear hK K hO2 hg2
                  refine wpAnyH_ready (rs := [9]) (by kernel_rfl) (by simp) ?_
                  refine AllReadyH.cons (o := ({ dst := some 53, op := Op.buildSlice 38 1 #[(0, Operand.tmp 52)], type := 38, pos := _, after := _, guard := _ } : Oper)) rfl (fun K hK => ?_) AllReadyH.nil
                  · go_simp
                    have hb3 : Below w2.heap.size w2 (w2.alloc (.cells #[.int .i64 x] 3)) := (Below.refl _ _).alloc (Nat.le_refl _) _
                    have b3 := hide (b2.out.trans (hb3.mono b2.out.size))
                    have s3 := hide (s2.out.more (.cells #[.int .i64 x] 3))
                    have l3 := hide (ri_lit1 w2 x)
                    have nf : Hid (∀ k, Value.ownBlock (.slice a2 pk.length c2) = some k → k < w2.heap.size) := hide (fun k hk => (s2.out.own.lt k hk).2)
                    refine hK.out _ _ (HS.out _ b3.out) (fun hH3 => ?_)
                    clear hK K hb3
                    obtain ⟨w3, hw3⟩ : ∃ z9, z9 = (w2.alloc (.cells #[.int .i64 x] 3)) := ⟨_, rfl⟩
                    rw [← hw3] at hH3 b3 l3 s3 ⊢
                    clear hw3
                    generalize w2.heap.size = nb at *
                    refine wpAnyH_ready (rs := [10]) (by kernel_rfl) (by simp) ?_
                    refine AllReadyH.cons (o := ({ dst := some 54, op := Op.call { callee := Callee.builtin Builtin.append, args := #[Operand.tmp 48, Operand.tmp 53], argTypes := #[38, 38] }, type := 38, pos := _, after := _, guard := _ } : Oper)) rfl (fun K hK => ?_) AllReadyH.nil
                    · refine wp_appY W9 w3 (.tmp 48) (.tmp 53) rfl _ pk s3.out rfl (some ⟨nb, 0, none⟩) 1 [x] rfl l3.out (fun t => by cases t) PL1.out ?_
                      intro a4 c4 w4 hO4 hg4
                      have b4 := hide hO4.bel
                      have s4 := hide hO4
                      refine hK.out _ _ (HS.out _ b4.out) (fun hH4 => ?_)
                      clear hK K hO4 hg4
                      refine wpAnyH_ready (rs := [14]) (by kernel_rfl) (by simp) ?_
                      refine AllReadyH.cons (o := ({ dst := some 58, op := Op.call { callee := Callee.builtin Builtin.append, args := #[Operand.tmp 54, Operand.tmp 57], argTypes := #[38, 38] }, type := 38, pos := _, after := _, guard := _ } : Oper)) rfl (fun K hK => ?_) AllReadyH.nil
                      · refine wp_appY W9 w4 (.tmp 54) (.tmp 57) rfl _ (pk ++ [x]) s4.out (by simp [go_sem]) (if cc = pk.length then some ⟨bb, oo, none⟩ else some ⟨bb, oo + pk.length, none⟩) (cc - pk.length) dk (by simp [go_sem]; try rfl) (HD.out _ b4.out) DN.out PL2.out ?_
                        intro a5 c5 w5 hO5 hg5
                        have b5 := hide hO5.bel
                        have s5 := hide hO5
                        refine hK.out _ _ (HS.out _ b5.out) (fun hH5 => ?_)
                        clear hK K hO5 hg5
                        refine wpAnyH_take (i := 15) (oi := ({ dst := some 3, op := Op.assign (Operand.tmp 58), type := 38, pos := _, after := _, guard := _ } : Oper)) (v := ?_) rfl (by kernel_rfl) (by kernel_rfl) (by kernel_rfl) (fun _ _ _ h => h) (Or.inl ⟨by rfl, ?_⟩) (by assumption) ?_
                        rotate_left
                        · (intro wz hSw; (try dsimp only at hSw); go_simp; try with_reducible rfl)
                        simp only [Act.put, List.setIfInBounds_toArray, List.set_cons_zero, List.set_cons_succ]
                        refine wpAnyH_done (by kernel_rfl) ?_ _
                        clear HS
                        go_wp2_with fail
                        exact ⟨⟨i + 1, pk ++ [x] ++ dk, by simp, by omega, by first | (simp; done) | (simp; omega) | (simp at *; omega), ⟨by have t := s5.out.base BW.out; simpa using t, HUP.out, HMEM.out⟩⟩, by simp [intOf]; omega⟩
                · go_simp
                  have hb2 : Below w1.heap.size w1 (w1.alloc (.cells #[.int .i64 x] 3)) := (Below.refl _ _).alloc (Nat.le_refl _) _
                  have b2 := hide (b1.out.trans (hb2.mono b1.out.size))
                  have s2 := hide (s1.out.more (.cells #[.int .i64 x] 3))
                  have l2 := hide (ri_lit1 w1 x)
                  have nf : Hid (∀ k, Value.ownBlock (.slice (some ⟨ne, 0, none⟩) 0 0) = some k → k < w1.heap.size) := hide (fun k hk => (s1.out.own.lt k hk).2)
                  refine hK.out _ _ (HS.out _ b2.out) (fun hH2 => ?_)
                  clear hK K hb2
                  obtain ⟨w2, hw2⟩ : ∃ z9, z9 = (w1.alloc (.cells #[.int .i64 x] 3)) := ⟨_, rfl⟩
                  rw [← hw2] at hH2 b2 l2 s2 ⊢
                  clear hw2
                  generalize w1.heap.size = nb at *
                  refine wpAnyH_ready (rs := [4]) (by kernel_rfl) (by simp) ?_
                  refine AllReadyH.cons (o := ({ dst := some 48, op := Op.call { callee := Callee.builtin Builtin.append, args := #[Operand.tmp 44, Operand.tmp 47], argTypes := #[38, 38] }, type := 38, pos := _, after := _, guard := _ } : Oper)) rfl (fun K hK => ?_) AllReadyH.nil
                  · refine wp_appY W9 w2 (.tmp 44) (.tmp 47) rfl _ [] s2.out rfl (some ⟨bb, oo, none⟩) cc pk rfl (HP.out _ b2.out) PN.out PL.out ?_
                    intro a3 c3 w3 hO3 hg3
                    simp only [List.length_nil, Nat.zero_add, List.nil_append] at hO3 ⊢
                    have b3 := hide hO3.bel
                    have s3 := hide hO3
                    have l3 := hide (ri_grown l2.out hg3 (fun t => Nat.lt_irrefl _ (nf.out nb t.symm)))
                    refine hK.out _ _ (HS.out _ b3.out) (fun hH3 => ?_)
                    clear hK K hO3 hg3
                    refine wpAnyH_ready (rs := [10]) (by kernel_rfl) (by simp) ?_
                    refine AllReadyH.cons (o := ({ dst := some 54, op := Op.call { callee := Callee.builtin Builtin.append, args := #[Operand.tmp 48, Operand.tmp 53], argTypes := #[38, 38] }, type := 38, pos := _, after := _, guard := _ } : Oper)) rfl (fun K hK => ?_) AllReadyH.nil
                    · refine wp_appY W9 w3 (.tmp 48) (.tmp 53) rfl _ pk s3.out rfl (some ⟨nb, 0, none⟩) 1 [x] rfl l3.out (fun t => by cases t) PL1.out ?_
                      intro a4 c4 w4 hO4 hg4
                      have b4 := hide hO4.bel
                      have s4 := hide hO4
                      refine hK.out _ _ (HS.out _ b4.out) (fun hH4 => ?_)
                      clear hK K hO4 hg4
                      refine wpAnyH_ready (rs := [14]) (by kernel_rfl) (by simp) ?_
                      refine AllReadyH.cons (o := ({ dst := some 58, op := Op.call { callee := Callee.builtin Builtin.append, args := #[Operand.tmp 54, Operand.tmp 57], argTypes := #[38, 38] }, type := 38, pos := _, after := _, guard := _ } : Oper)) rfl (fun K hK => ?_) AllReadyH.nil
                      · refine wp_appY W9 w4 (.tmp 54) (.tmp 57) rfl _ (pk ++ [x]) s4.out (by simp [go_sem]) (if cc = pk.length then some ⟨bb, oo, none⟩ else some ⟨bb, oo + pk.length, none⟩) (cc - pk.length) dk (by simp [go_sem]; try rfl) (HD.out _ b4.out) DN.out PL2.out ?_
                        intro a5 c5 w5 hO5 hg5
                        have b5 := hide hO5.bel
                        have s5 := hide hO5
                        refine hK.out _ _ (HS.out _ b5.out) (fun hH5 => ?_)
                        clear hK K hO5 hg5
                        refine wpAnyH_take (i := 15) (oi := ({ dst := some 3, op := Op.assign (Operand.tmp 58), type := 38, pos := _, after := _, guard := _ } : Oper)) (v := ?_) rfl (by kernel_rfl) (by kernel_rfl) (by kernel_rfl) (fun _ _ _ h => h) (Or.inl ⟨by rfl, ?_⟩) (by assumption) ?_
                        rotate_left
                        · (intro wz hSw; (try dsimp only at hSw); go_simp; try with_reducible rfl)
                        simp only [Act.put, List.setIfInBounds_toArray, List.set_cons_zero, List.set_cons_succ]
                        refine wpAnyH_done (by kernel_rfl) ?_ _
                        clear HS
                        go_wp2_with fail
                        exact ⟨⟨i + 1, pk ++ [x] ++ dk, by simp, by omega, by first | (simp; done) | (simp; omega) | (simp at *; omega), ⟨by have t := s5.out.base BW.out; simpa using t, HUP.out, HMEM.out⟩⟩, by simp [intOf]; omega⟩
              · go_simp
                have hb1 : Below w0.heap.size w0 (w0.alloc (.cells #[.int .i64 x] 3)) := (Below.refl _ _).alloc (Nat.le_refl _) _
                have b1 := hide (b0.out.trans (hb1.mono b0.out.size))
                have l1 := hide (ri_lit1 w0 x)
                refine hK.out _ _ (HS.out _ b1.out) (fun hH1 => ?_)
                clear hK K hb1
                obtain ⟨w1, hw1⟩ : ∃ z9, z9 = (w0.alloc (.cells #[.int .i64 x] 3)) := ⟨_, rfl⟩
                rw [← hw1] at hH1 b1 l1  ⊢
                clear hw1
                generalize w0.heap.size = nb at *
                refine wpAnyH_ready (rs := [0]) (by kernel_rfl) (by simp) ?_
                refine AllReadyH.cons (o := ({ dst := some 44, op := Op.buildSlice 38 0 #[], type := 38, pos := _, after := _, guard := _ } : Oper)) rfl (fun K hK => ?_) AllReadyH.nil
                · go_simp
                  have hb2 : Below w1.heap.size w1 (w1.alloc (.cells #[] 3)) := (Below.refl _ _).alloc (Nat.le_refl _) _
                  have b2 := hide (b1.out.trans (hb2.mono b1.out.size))
                  have l2 := hide (l1.out.keep' hb2)
                  have s2 := hide ((St.lit0 w1).base b1.out)
                  refine hK.out _ _ (HS.out _ b2.out) (fun hH2 => ?_)
                  clear hK K hb2
                  have ne1 : Hid (nb < w1.heap.size) := hide (ri_lt l1.out)
                  obtain ⟨w2, hw2⟩ : ∃ z9, z9 = (w1.alloc (.cells #[] 3)) := ⟨_, rfl⟩
                  rw [← hw2] at hH2 b2 s2 l2 ⊢
                  clear hw2
                  obtain ⟨ne, hne⟩ : ∃ z9, z9 = w1.heap.size := ⟨_, rfl⟩
                  rw [← hne] at s2 ne1 ⊢
                  replace hne := hide hne
                  refine wpAnyH_ready (rs := [4]) (by kernel_rfl) (by simp) ?_
                  refine AllReadyH.cons (o := ({ dst := some 48, op := Op.call { callee := Callee.builtin Builtin.append, args := #[Operand.tmp 44, Operand.tmp 47], argTypes := #[38, 38] }, type := 38, pos := _, after := _, guard := _ } : Oper)) rfl (fun K hK => ?_) AllReadyH.nil
                  · refine wp_appY W9 w2 (.tmp 44) (.tmp 47) rfl _ [] s2.out rfl (some ⟨bb, oo, none⟩) cc pk rfl (HP.out _ b2.out) PN.out PL.out ?_
                    intro a3 c3 w3 hO3 hg3
                    simp only [List.length_nil, Nat.zero_add, List.nil_append] at hO3 ⊢
                    have b3 := hide hO3.bel
                    have s3 := hide hO3
                    have l3 := hide (ri_grown l2.out hg3 (fun t => absurd (Option.some.inj t) (Nat.ne_of_lt ne1.out)))
                    refine hK.out _ _ (HS.out _ b3.out) (fun hH3 => ?_)
                    clear hK K hO3 hg3
                    refine wpAnyH_ready (rs := [10]) (by kernel_rfl) (by simp) ?_
                    refine AllReadyH.cons (o := ({ dst := some 54, op := Op.call { callee := Callee.builtin Builtin.append, args := #[Operand.tmp 48, Operand.tmp 53], argTypes := #[38, 38] }, type := 38, pos := _, after := _, guard := _ } : Oper)) rfl (fun K hK => ?_) AllReadyH.nil
                    · refine wp_appY W9 w3 (.tmp 48) (.tmp 53) rfl _ pk s3.out rfl (some ⟨nb, 0, none⟩) 1 [x] rfl l3.out (fun t => by cases t) PL1.out ?_
                      intro a4 c4 w4 hO4 hg4
                      have b4 := hide hO4.bel
                      have s4 := hide hO4
                      refine hK.out _ _ (HS.out _ b4.out) (fun hH4 => ?_)
                      clear hK K hO4 hg4
                      refine wpAnyH_ready (rs := [14]) (by kernel_rfl) (by simp) ?_
                      refine AllReadyH.cons (o := ({ dst := some 58, op := Op.call { callee := Callee.builtin Builtin.append, args := #[Operand.tmp 54, Operand.tmp 57], argTypes := #[38, 38] }, type := 38, pos := _, after := _, guard := _ } : Oper)) rfl (fun K hK => ?_) AllReadyH.nil
                      · refine wp_appY W9 w4 (.tmp 54) (.tmp 57) rfl _ (pk ++ [x]) s4.out (by simp [go_sem]) (if cc = pk.length then some ⟨bb, oo, none⟩ else some ⟨bb, oo + pk.length, none⟩) (cc - pk.length) dk (by simp [go_sem]; try rfl) (HD.out _ b4.out) DN.out PL2.out ?_
                        intro a5 c5 w5 hO5 hg5
                        have b5 := hide hO5.bel
                        have s5 := hide hO5
                        refine hK.out _ _ (HS.out _ b5.out) (fun hH5 => ?_)
                        clear hK K hO5 hg5
                        refine wpAnyH_take (i := 15) (oi := ({ dst := some 3, op := Op.assign (Operand.tmp 58), type := 38, pos := _, after := _, guard := _ } : Oper)) (v := ?_) rfl (by kernel_rfl) (by kernel_rfl) (by kernel_rfl) (fun _ _ _ h => h) (Or.inl ⟨by rfl, ?_⟩) (by assumption) ?_
                        rotate_left
                        · (intro wz hSw; (try dsimp only at hSw); go_simp; try with_reducible rfl)
                        simp only [Act.put, List.setIfInBounds_toArray, List.set_cons_zero, List.set_cons_succ]
                        refine wpAnyH_done (by kernel_rfl) ?_ _
                        clear HS
                        go_wp2_with fail
                        exact ⟨⟨i + 1, pk ++ [x] ++ dk, by simp, by omega, by first | (simp; done) | (simp; omega) | (simp at *; omega), ⟨by have t := s5.out.base BW.out; simpa using t, HUP.out, HMEM.out⟩⟩, by simp [intOf]; omega⟩
end Go.Proofs.Ytmhicllhjiglkaa
namespace Go.Proofs.Ytmhicllhjiglkaa
open Go.RowKit
theorem and7up (s : Int) : bits .and .i64 s 7 = up (low s) := by rw [and_up _ _ (by omega) (by omega), show low 7 = 7#3 from rfl, and7]
set_option maxRecDepth 100000 in
set_option maxHeartbeats 16000000 in
theorem fix_V (s : Int) (k : Bool) (n lo hi p : Int) (w : World) : Calls Try.prog 25 #[.agg #[.int .i64 s, .bool k, .int .i64 n, .int .i64 lo, .int .i64 hi, .int .i64 p]] w fun e w' => e = .returned (.agg #[.int .i64 (up (fixV s k n lo hi p).s), .bool (fixV s k n lo hi p).k, .int .i64 (fixV s k n lo hi p).n, .int .i64 (fixV s k n lo hi p).lo, .int .i64 (fixV s k n lo hi p).hi, .int .i64 (up (fixV s k n lo hi p).p)]) ∧ Below w.heap.size w w' := by
  have e1 := and7up s
  have e2 := and3 p
  have HR : Hid (fixV s k n lo hi p = ⟨if low s = 0 then 7 else low s, k, cleanN k n, min lo hi, max lo hi, if lp p = 0 then 3 else lp p⟩) := rfl
  generalize fixV s k n lo hi p = r at *
  by_cases hs : low s = 0
  · by_cases hp : lp p = 0
    · have d1 : (up (low s) == 0) = true := by rw [show (0 : Int) = up 0 from rfl, up_beq, beq_iff_eq]; exact hs
      have d2 : (up (lp p) == 0) = true := by rw [show (0 : Int) = up 0 from rfl, up_beq, beq_iff_eq]; exact hp
      have HQ : Hid (r = ⟨7, k, cleanN k n, min lo hi, max lo hi, 3⟩) := by unfold Hid; rw [HR.out, if_pos hs, if_pos hp]
      clear hs hp HR
      go_enter Try.func25, Try.ntmps25
      go_upto_region 7 with fail
      go_name_world W hW
      have HA : Hid (Br W w.heap.size 7 k n lo hi 3 ∧ Fz W w.heap.size ∧ Br W (w.heap.size + 1) 0 false 0 0 0 0 ∧ Fz W (w.heap.size + 1) ∧ Below w.heap.size w W) := by
        rw [← hW]
        refine ⟨⟨?_, ?_, ?_, ?_, ?_, ?_⟩, ⟨?_, ?_, ?_, ?_, ?_, ?_⟩, ⟨?_, ?_, ?_, ?_, ?_, ?_⟩, ⟨?_, ?_, ?_, ?_, ?_, ?_⟩, (by repeat (first | exact Below.refl _ _ | (refine Below.drew ?_) | (refine below_drewN ?_ _) | (refine Below.setCell ?_ (by first | omega | (simp; done) | (simp; omega)) _) | (refine Below.alloc ?_ (by first | omega | (simp; done) | (simp; omega)) _) | (refine Below.trans ?_ (Below.mono (by assumption) (by first | omega | (simp; done) | (simp; omega))))))⟩ <;> simp [go_sem]
      clear hW
      obtain ⟨N, hN⟩ : ∃ N, N = w.heap.size := ⟨_, rfl⟩
      rw [← hN] at HA ⊢
      have HN : Hid (N = w.heap.size) := hN
      clear hN
      have a0 := HA.out.1.c0
      have a1 := HA.out.1.c1
      have a2 := HA.out.1.c2
      have a3 := HA.out.1.c3
      have a4 := HA.out.1.c4
      have a5 := HA.out.1.c5
      go_upto_region 8 with (go_at_call 63; refine (kclean_any _ _ _).mono ?_; rintro e wK ⟨rfl, hK⟩; clear a0 a1 a2 a3 a4 a5; have K := And.intro (HA.out.1.keep hK) (And.intro (HA.out.2.1.keep HA.out.1.lt hK) (And.intro (HA.out.2.2.1.keep hK) (And.intro (HA.out.2.2.2.1.keep HA.out.2.2.1.lt hK) (HA.out.2.2.2.2.trans (hK.mono (Nat.le_of_lt HA.out.1.lt)))))); have a0 := K.1.c0; have a1 := K.1.c1; have a2 := K.1.c2; have a3 := K.1.c3; have a4 := K.1.c4; have a5 := K.1.c5; have f0 := K.2.1.f0; have f1 := K.2.1.f1; have f2 := K.2.1.f2; have f3 := K.2.1.f3; have f4 := K.2.1.f4; have f5 := K.2.1.f5)
      go_name_world W2 hW2
      have HB : Hid (Br W2 N 7 k (cleanN k n) lo hi 3 ∧ Fz W2 N ∧ Br W2 (N + 1) 0 false 0 0 0 0 ∧ Fz W2 (N + 1) ∧ Below N w W2) := by
        rw [← hW2]
        exact ⟨K.1.known _ _, K.2.1.two _ _ _ _, K.2.2.1.two (by omega) _ _ _ _, K.2.2.2.1.two _ _ _ _, two_below K.2.2.2.2 N _ _ (Nat.le_refl _) _ _⟩
      clear hW2 hK K HA a0 a1 a2 a3 a4 a5 f0 f1 f2 f3 f4 f5
      have a0 := HB.out.1.c0
      have a1 := HB.out.1.c1
      have a2 := HB.out.1.c2
      have a3 := HB.out.1.c3
      have a4 := HB.out.1.c4
      have a5 := HB.out.1.c5
      go_upto_region 9 with (go_at_call 64; refine (bel2 (nfix_any _ _ _)).mono ?_; rintro e wK ⟨rfl, hK⟩; clear a0 a1 a2 a3 a4 a5; have K := And.intro (HB.out.1.keep hK) (And.intro (HB.out.2.1.keep HB.out.1.lt hK) (And.intro (HB.out.2.2.1.keep hK) (And.intro (HB.out.2.2.2.1.keep HB.out.2.2.1.lt hK) (HB.out.2.2.2.2.trans (hK.mono (Nat.le_of_lt HB.out.1.lt)))))); have a0 := K.1.c0; have a1 := K.1.c1; have a2 := K.1.c2; have a3 := K.1.c3; have a4 := K.1.c4; have a5 := K.1.c5; have f0 := K.2.1.f0; have f1 := K.2.1.f1; have f2 := K.2.1.f2; have f3 := K.2.1.f3; have f4 := K.2.1.f4; have f5 := K.2.1.f5)
      go_name_world W3 hW3
      have HC : Hid (Br W3 N 7 k (cleanN k n) (min lo hi) (max lo hi) 3 ∧ Br W3 (N + 1) 0 false 0 0 0 0 ∧ Fz W3 (N + 1) ∧ Below N w W3) := by
        rw [← hW3]
        exact ⟨K.1.span _ _, K.2.2.1.two (by omega) _ _ _ _, K.2.2.2.1.two _ _ _ _, two_below K.2.2.2.2 N _ _ (Nat.le_refl _) _ _⟩
      clear hW3 hK K HB a0 a1 a2 a3 a4 a5 f0 f1 f2 f3 f4 f5
      have a0 := HC.out.1.c0
      have a1 := HC.out.1.c1
      have a2 := HC.out.1.c2
      have a3 := HC.out.1.c3
      have a4 := HC.out.1.c4
      have a5 := HC.out.1.c5
      have b0 := HC.out.2.1.c0
      have b1 := HC.out.2.1.c1
      have b2 := HC.out.2.1.c2
      have b3 := HC.out.2.1.c3
      have b4 := HC.out.2.1.c4
      have b5 := HC.out.2.1.c5
      have f0 := HC.out.2.2.1.f0
      have f1 := HC.out.2.2.1.f1
      have f2 := HC.out.2.2.1.f2
      have f3 := HC.out.2.2.1.f3
      have f4 := HC.out.2.2.1.f4
      have f5 := HC.out.2.2.1.f5
      have hB := HC.out.2.2.2
      go_wp2_with fail
      have zw := HC.out.2.1.wrote 7 k (cleanN k n) (min lo hi) (max lo hi) 3
      have hZ := st6_below HC.out.2.2.2 (N + 1) (Nat.le_succ _) (.int .i64 7) (.bool k) (.int .i64 (cleanN k n)) (.int .i64 (min lo hi)) (.int .i64 (max lo hi)) (.int .i64 3)
      clear HC hB e1 e2 d1 d2 a0 a1 a2 a3 a4 a5 b0 b1 b2 b3 b4 b5 f0 f1 f2 f3 f4 f5
      have a0 := zw.c0
      have a1 := zw.c1
      have a2 := zw.c2
      have a3 := zw.c3
      have a4 := zw.c4
      have a5 := zw.c5
      clear zw
      refine bodyPost_ret (by simp [results, Try.results25, go_sem, *]; try rfl) rfl ⟨?_, by rw [← HN.out]; exact hZ⟩
      rw [HQ.out] <;> rfl
    · have d1 : (up (low s) == 0) = true := by rw [show (0 : Int) = up 0 from rfl, up_beq, beq_iff_eq]; exact hs
      have d2 : (up (lp p) == 0) = false := by rw [show (0 : Int) = up 0 from rfl, up_beq, beq_eq_false_iff_ne]; exact hp
      have HQ : Hid (r = ⟨7, k, cleanN k n, min lo hi, max lo hi, lp p⟩) := by unfold Hid; rw [HR.out, if_pos hs, if_neg hp]
      clear hs hp HR
      go_enter Try.func25, Try.ntmps25
      go_upto_region 7 with fail
      go_name_world W hW
      have HA : Hid (Br W w.heap.size 7 k n lo hi (up (lp p)) ∧ Fz W w.heap.size ∧ Br W (w.heap.size + 1) 0 false 0 0 0 0 ∧ Fz W (w.heap.size + 1) ∧ Below w.heap.size w W) := by
        rw [← hW]
        refine ⟨⟨?_, ?_, ?_, ?_, ?_, ?_⟩, ⟨?_, ?_, ?_, ?_, ?_, ?_⟩, ⟨?_, ?_, ?_, ?_, ?_, ?_⟩, ⟨?_, ?_, ?_, ?_, ?_, ?_⟩, (by repeat (first | exact Below.refl _ _ | (refine Below.drew ?_) | (refine below_drewN ?_ _) | (refine Below.setCell ?_ (by first | omega | (simp; done) | (simp; omega)) _) | (refine Below.alloc ?_ (by first | omega | (simp; done) | (simp; omega)) _) | (refine Below.trans ?_ (Below.mono (by assumption) (by first | omega | (simp; done) | (simp; omega))))))⟩ <;> simp [go_sem]
      clear hW
      obtain ⟨N, hN⟩ : ∃ N, N = w.heap.size := ⟨_, rfl⟩
      rw [← hN] at HA ⊢
      have HN : Hid (N = w.heap.size) := hN
      clear hN
      have a0 := HA.out.1.c0
      have a1 := HA.out.1.c1
      have a2 := HA.out.1.c2
      have a3 := HA.out.1.c3
      have a4 := HA.out.1.c4
      have a5 := HA.out.1.c5
      go_upto_region 8 with (go_at_call 63; refine (kclean_any _ _ _).mono ?_; rintro e wK ⟨rfl, hK⟩; clear a0 a1 a2 a3 a4 a5; have K := And.intro (HA.out.1.keep hK) (And.intro (HA.out.2.1.keep HA.out.1.lt hK) (And.intro (HA.out.2.2.1.keep hK) (And.intro (HA.out.2.2.2.1.keep HA.out.2.2.1.lt hK) (HA.out.2.2.2.2.trans (hK.mono (Nat.le_of_lt HA.out.1.lt)))))); have a0 := K.1.c0; have a1 := K.1.c1; have a2 := K.1.c2; have a3 := K.1.c3; have a4 := K.1.c4; have a5 := K.1.c5; have f0 := K.2.1.f0; have f1 := K.2.1.f1; have f2 := K.2.1.f2; have f3 := K.2.1.f3; have f4 := K.2.1.f4; have f5 := K.2.1.f5)
      go_name_world W2 hW2
      have HB : Hid (Br W2 N 7 k (cleanN k n) lo hi (up (lp p)) ∧ Fz W2 N ∧ Br W2 (N + 1) 0 false 0 0 0 0 ∧ Fz W2 (N + 1) ∧ Below N w W2) := by
        rw [← hW2]
        exact ⟨K.1.known _ _, K.2.1.two _ _ _ _, K.2.2.1.two (by omega) _ _ _ _, K.2.2.2.1.two _ _ _ _, two_below K.2.2.2.2 N _ _ (Nat.le_refl _) _ _⟩
      clear hW2 hK K HA a0 a1 a2 a3 a4 a5 f0 f1 f2 f3 f4 f5
      have a0 := HB.out.1.c0
      have a1 := HB.out.1.c1
      have a2 := HB.out.1.c2
      have a3 := HB.out.1.c3
      have a4 := HB.out.1.c4
      have a5 := HB.out.1.c5
      go_upto_region 9 with (go_at_call 64; refine (bel2 (nfix_any _ _ _)).mono ?_; rintro e wK ⟨rfl, hK⟩; clear a0 a1 a2 a3 a4 a5; have K := And.intro (HB.out.1.keep hK) (And.intro (HB.out.2.1.keep HB.out.1.lt hK) (And.intro (HB.out.2.2.1.keep hK) (And.intro (HB.out.2.2.2.1.keep HB.out.2.2.1.lt hK) (HB.out.2.2.2.2.trans (hK.mono (Nat.le_of_lt HB.out.1.lt)))))); have a0 := K.1.c0; have a1 := K.1.c1; have a2 := K.1.c2; have a3 := K.1.c3; have a4 := K.1.c4; have a5 := K.1.c5; have f0 := K.2.1.f0; have f1 := K.2.1.f1; have f2 := K.2.1.f2; have f3 := K.2.1.f3; have f4 := K.2.1.f4; have f5 := K.2.1.f5)
      go_name_world W3 hW3
      have HC : Hid (Br W3 N 7 k (cleanN k n) (min lo hi) (max lo hi) (up (lp p)) ∧ Br W3 (N + 1) 0 false 0 0 0 0 ∧ Fz W3 (N + 1) ∧ Below N w W3) := by
        rw [← hW3]
        exact ⟨K.1.span _ _, K.2.2.1.two (by omega) _ _ _ _, K.2.2.2.1.two _ _ _ _, two_below K.2.2.2.2 N _ _ (Nat.le_refl _) _ _⟩
      clear hW3 hK K HB a0 a1 a2 a3 a4 a5 f0 f1 f2 f3 f4 f5
      have a0 := HC.out.1.c0
      have a1 := HC.out.1.c1
      have a2 := HC.out.1.c2
      have a3 := HC.out.1.c3
      have a4 := HC.out.1.c4
      have a5 := HC.out.1.c5
      have b0 := HC.out.2.1.c0
      have b1 := HC.out.2.1.c1
      have b2 := HC.out.2.1.c2
      have b3 := HC.out.2.1.c3
      have b4 := HC.out.2.1.c4
      have b5 := HC.out.2.1.c5
      have f0 := HC.out.2.2.1.f0
      have f1 := HC.out.2.2.1.f1
      have f2 := HC.out.2.2.1.f2
      have f3 := HC.out.2.2.1.f3
      have f4 := HC.out.2.2.1.f4
      have f5 := HC.out.2.2.1.f5
      have hB := HC.out.2.2.2
      go_wp2_with fail
      have zw := HC.out.2.1.wrote 7 k (cleanN k n) (min lo hi) (max lo hi) (up (lp p))
      have hZ := st6_below HC.out.2.2.2 (N + 1) (Nat.le_succ _) (.int .i64 7) (.bool k) (.int .i64 (cleanN k n)) (.int .i64 (min lo hi)) (.int .i64 (max lo hi)) (.int .i64 (up (lp p)))
      clear HC hB e1 e2 d1 d2 a0 a1 a2 a3 a4 a5 b0 b1 b2 b3 b4 b5 f0 f1 f2 f3 f4 f5
      have a0 := zw.c0
      have a1 := zw.c1
      have a2 := zw.c2
      have a3 := zw.c3
      have a4 := zw.c4
      have a5 := zw.c5
      clear zw
      refine bodyPost_ret (by simp [results, Try.results25, go_sem, *]; try rfl) rfl ⟨?_, by rw [← HN.out]; exact hZ⟩
      rw [HQ.out] <;> rfl
  · by_cases hp : lp p = 0
    · have d1 : (up (low s) == 0) = false := by rw [show (0 : Int) = up 0 from rfl, up_beq, beq_eq_false_iff_ne]; exact hs
      have d2 : (up (lp p) == 0) = true := by rw [show (0 : Int) = up 0 from rfl, up_beq, beq_iff_eq]; exact hp
      have HQ : Hid (r = ⟨low s, k, cleanN k n, min lo hi, max lo hi, 3⟩) := by unfold Hid; rw [HR.out, if_neg hs, if_pos hp]
      clear hs hp HR
      go_enter Try.func25, Try.ntmps25
      go_upto_region 7 with fail
      go_name_world W hW
      have HA : Hid (Br W w.heap.size (up (low s)) k n lo hi 3 ∧ Fz W w.heap.size ∧ Br W (w.heap.size + 1) 0 false 0 0 0 0 ∧ Fz W (w.heap.size + 1) ∧ Below w.heap.size w W) := by
        rw [← hW]
        refine ⟨⟨?_, ?_, ?_, ?_, ?_, ?_⟩, ⟨?_, ?_, ?_, ?_, ?_, ?_⟩, ⟨?_, ?_, ?_, ?_, ?_, ?_⟩, ⟨?_, ?_, ?_, ?_, ?_, ?_⟩, (by repeat (first | exact Below.refl _ _ | (refine Below.drew ?_) | (refine below_drewN ?_ _) | (refine Below.setCell ?_ (by first | omega | (simp; done) | (simp; omega)) _) | (refine Below.alloc ?_ (by first | omega | (simp; done) | (simp; omega)) _) | (refine Below.trans ?_ (Below.mono (by assumption) (by first | omega | (simp; done) | (simp; omega))))))⟩ <;> simp [go_sem]
      clear hW
      obtain ⟨N, hN⟩ : ∃ N, N = w.heap.size := ⟨_, rfl⟩
      rw [← hN] at HA ⊢
      have HN : Hid (N = w.heap.size) := hN
      clear hN
      have a0 := HA.out.1.c0
      have a1 := HA.out.1.c1
      have a2 := HA.out.1.c2
      have a3 := HA.out.1.c3
      have a4 := HA.out.1.c4
      have a5 := HA.out.1.c5
      go_upto_region 8 with (go_at_call 63; refine (kclean_any _ _ _).mono ?_; rintro e wK ⟨rfl, hK⟩; clear a0 a1 a2 a3 a4 a5; have K := And.intro (HA.out.1.keep hK) (And.intro (HA.out.2.1.keep HA.out.1.lt hK) (And.intro (HA.out.2.2.1.keep hK) (And.intro (HA.out.2.2.2.1.keep HA.out.2.2.1.lt hK) (HA.out.2.2.2.2.trans (hK.mono (Nat.le_of_lt HA.out.1.lt)))))); have a0 := K.1.c0; have a1 := K.1.c1; have a2 := K.1.c2; have a3 := K.1.c3; have a4 := K.1.c4; have a5 := K.1.c5; have f0 := K.2.1.f0; have f1 := K.2.1.f1; have f2 := K.2.1.f2; have f3 := K.2.1.f3; have f4 := K.2.1.f4; have f5 := K.2.1.f5)
      go_name_world W2 hW2
      have HB : Hid (Br W2 N (up (low s)) k (cleanN k n) lo hi 3 ∧ Fz W2 N ∧ Br W2 (N + 1) 0 false 0 0 0 0 ∧ Fz W2 (N + 1) ∧ Below N w W2) := by
        rw [← hW2]
        exact ⟨K.1.known _ _, K.2.1.two _ _ _ _, K.2.2.1.two (by omega) _ _ _ _, K.2.2.2.1.two _ _ _ _, two_below K.2.2.2.2 N _ _ (Nat.le_refl _) _ _⟩
      clear hW2 hK K HA a0 a1 a2 a3 a4 a5 f0 f1 f2 f3 f4 f5
      have a0 := HB.out.1.c0
      have a1 := HB.out.1.c1
      have a2 := HB.out.1.c2
      have a3 := HB.out.1.c3
      have a4 := HB.out.1.c4
      have a5 := HB.out.1.c5
      go_upto_region 9 with (go_at_call 64; refine (bel2 (nfix_any _ _ _)).mono ?_; rintro e wK ⟨rfl, hK⟩; clear a0 a1 a2 a3 a4 a5; have K := And.intro (HB.out.1.keep hK) (And.intro (HB.out.2.1.keep HB.out.1.lt hK) (And.intro (HB.out.2.2.1.keep hK) (And.intro (HB.out.2.2.2.1.keep HB.out.2.2.1.lt hK) (HB.out.2.2.2.2.trans (hK.mono (Nat.le_of_lt HB.out.1.lt)))))); have a0 := K.1.c0; have a1 := K.1.c1; have a2 := K.1.c2; have a3 := K.1.c3; have a4 := K.1.c4; have a5 := K.1.c5; have f0 := K.2.1.f0; have f1 := K.2.1.f1; have f2 := K.2.1.f2; have f3 := K.2.1.f3; have f4 := K.2.1.f4; have f5 := K.2.1.f5)
      go_name_world W3 hW3
      have HC : Hid (Br W3 N (up (low s)) k (cleanN k n) (min lo hi) (max lo hi) 3 ∧ Br W3 (N + 1) 0 false 0 0 0 0 ∧ Fz W3 (N + 1) ∧ Below N w W3) := by
        rw [← hW3]
        exact ⟨K.1.span _ _, K.2.2.1.two (by omega) _ _ _ _, K.2.2.2.1.two _ _ _ _, two_below K.2.2.2.2 N _ _ (Nat.le_refl _) _ _⟩
      clear hW3 hK K HB a0 a1 a2 a3 a4 a5 f0 f1 f2 f3 f4 f5
      have a0 := HC.out.1.c0
      have a1 := HC.out.1.c1
      have a2 := HC.out.1.c2
      have a3 := HC.out.1.c3
      have a4 := HC.out.1.c4
      have a5 := HC.out.1.c5
      have b0 := HC.out.2.1.c0
      have b1 := HC.out.2.1.c1
      have b2 := HC.out.2.1.c2
      have b3 := HC.out.2.1.c3
      have b4 := HC.out.2.1.c4
      have b5 := HC.out.2.1.c5
      have f0 := HC.out.2.2.1.f0
      have f1 := HC.out.2.2.1.f1
      have f2 := HC.out.2.2.1.f2
      have f3 := HC.out.2.2.1.f3
      have f4 := HC.out.2.2.1.f4
      have f5 := HC.out.2.2.1.f5
      have hB := HC.out.2.2.2
      go_wp2_with fail
      have zw := HC.out.2.1.wrote (up (low s)) k (cleanN k n) (min lo hi) (max lo hi) 3
      have hZ := st6_below HC.out.2.2.2 (N + 1) (Nat.le_succ _) (.int .i64 (up (low s))) (.bool k) (.int .i64 (cleanN k n)) (.int .i64 (min lo hi)) (.int .i64 (max lo hi)) (.int .i64 3)
      clear HC hB e1 e2 d1 d2 a0 a1 a2 a3 a4 a5 b0 b1 b2 b3 b4 b5 f0 f1 f2 f3 f4 f5
      have a0 := zw.c0
      have a1 := zw.c1
      have a2 := zw.c2
      have a3 := zw.c3
      have a4 := zw.c4
      have a5 := zw.c5
      clear zw
      refine bodyPost_ret (by simp [results, Try.results25, go_sem, *]; try rfl) rfl ⟨?_, by rw [← HN.out]; exact hZ⟩
      rw [HQ.out] <;> rfl
    · have d1 : (up (low s) == 0) = false := by rw [show (0 : Int) = up 0 from rfl, up_beq, beq_eq_false_iff_ne]; exact hs
      have d2 : (up (lp p) == 0) = false := by rw [show (0 : Int) = up 0 from rfl, up_beq, beq_eq_false_iff_ne]; exact hp
      have HQ : Hid (r = ⟨low s, k, cleanN k n, min lo hi, max lo hi, lp p⟩) := by unfold Hid; rw [HR.out, if_neg hs, if_neg hp]
      clear hs hp HR
      go_enter Try.func25, Try.ntmps25
      go_upto_region 7 with fail
      go_name_world W hW
      have HA : Hid (Br W w.heap.size (up (low s)) k n lo hi (up (lp p)) ∧ Fz W w.heap.size ∧ Br W (w.heap.size + 1) 0 false 0 0 0 0 ∧ Fz W (w.heap.size + 1) ∧ Below w.heap.size w W) := by
        rw [← hW]
        refine ⟨⟨?_, ?_, ?_, ?_, ?_, ?_⟩, ⟨?_, ?_, ?_, ?_, ?_, ?_⟩, ⟨?_, ?_, ?_, ?_, ?_, ?_⟩, ⟨?_, ?_, ?_, ?_, ?_, ?_⟩, (by repeat (first | exact Below.refl _ _ | (refine Below.drew ?_) | (refine below_drewN ?_ _) | (refine Below.setCell ?_ (by first | omega | (simp; done) | (simp; omega)) _) | (refine Below.alloc ?_ (by first | omega | (simp; done) | (simp; omega)) _) | (refine Below.trans ?_ (Below.mono (by assumption) (by first | omega | (simp; done) | (simp; omega))))))⟩ <;> simp [go_sem]
      clear hW
      obtain ⟨N, hN⟩ : ∃ N, N = w.heap.size := ⟨_, rfl⟩
      rw [← hN] at HA ⊢
      have HN : Hid (N = w.heap.size) := hN
      clear hN
      have a0 := HA.out.1.c0
      have a1 := HA.out.1.c1
      have a2 := HA.out.1.c2
      have a3 := HA.out.1.c3
      have a4 := HA.out.1.c4
      have a5 := HA.out.1.c5
      go_upto_region 8 with (go_at_call 63; refine (kclean_any _ _ _).mono ?_; rintro e wK ⟨rfl, hK⟩; clear a0 a1 a2 a3 a4 a5; have K := And.intro (HA.out.1.keep hK) (And.intro (HA.out.2.1.keep HA.out.1.lt hK) (And.intro (HA.out.2.2.1.keep hK) (And.intro (HA.out.2.2.2.1.keep HA.out.2.2.1.lt hK) (HA.out.2.2.2.2.trans (hK.mono (Nat.le_of_lt HA.out.1.lt)))))); have a0 := K.1.c0; have a1 := K.1.c1; have a2 := K.1.c2; have a3 := K.1.c3; have a4 := K.1.c4; have a5 := K.1.c5; have f0 := K.2.1.f0; have f1 := K.2.1.f1; have f2 := K.2.1.f2; have f3 := K.2.1.f3; have f4 := K.2.1.f4; have f5 := K.2.1.f5)
      go_name_world W2 hW2
      have HB : Hid (Br W2 N (up (low s)) k (cleanN k n) lo hi (up (lp p)) ∧ Fz W2 N ∧ Br W2 (N + 1) 0 false 0 0 0 0 ∧ Fz W2 (N + 1) ∧ Below N w W2) := by
        rw [← hW2]
        exact ⟨K.1.known _ _, K.2.1.two _ _ _ _, K.2.2.1.two (by omega) _ _ _ _, K.2.2.2.1.two _ _ _ _, two_below K.2.2.2.2 N _ _ (Nat.le_refl _) _ _⟩
      clear hW2 hK K HA a0 a1 a2 a3 a4 a5 f0 f1 f2 f3 f4 f5
      have a0 := HB.out.1.c0
      have a1 := HB.out.1.c1
      have a2 := HB.out.1.c2
      have a3 := HB.out.1.c3
      have a4 := HB.out.1.c4
      have a5 := HB.out.1.c5
      go_upto_region 9 with (go_at_call 64; refine (bel2 (nfix_any _ _ _)).mono ?_; rintro e wK ⟨rfl, hK⟩; clear a0 a1 a2 a3 a4 a5; have K := And.intro (HB.out.1.keep hK) (And.intro (HB.out.2.1.keep HB.out.1.lt hK) (And.intro (HB.out.2.2.1.keep hK) (And.intro (HB.out.2.2.2.1.keep HB.out.2.2.1.lt hK) (HB.out.2.2.2.2.trans (hK.mono (Nat.le_of_lt HB.out.1.lt)))))); have a0 := K.1.c0; have a1 := K.1.c1; have a2 := K.1.c2; have a3 := K.1.c3; have a4 := K.1.c4; have a5 := K.1.c5; have f0 := K.2.1.f0; have f1 := K.2.1.f1; have f2 := K.2.1.f2; have f3 := K.2.1.f3; have f4 := K.2.1.f4; have f5 := K.2.1.f5)
      go_name_world W3 hW3
      have HC : Hid (Br W3 N (up (low s)) k (cleanN k n) (min lo hi) (max lo hi) (up (lp p)) ∧ Br W3 (N + 1) 0 false 0 0 0 0 ∧ Fz W3 (N + 1) ∧ Below N w W3) := by
        rw [← hW3]
        exact ⟨K.1.span _ _, K.2.2.1.two (by omega) _ _ _ _, K.2.2.2.1.two _ _ _ _, two_below K.2.2.2.2 N _ _ (Nat.le_refl _) _ _⟩
      clear hW3 hK K HB a0 a1 a2 a3 a4 a5 f0 f1 f2 f3 f4 f5
      have a0 := HC.out.1.c0
      have a1 := HC.out.1.c1
      have a2 := HC.out.1.c2
      have a3 := HC.out.1.c3
      have a4 := HC.out.1.c4
      have a5 := HC.out.1.c5
      have b0 := HC.out.2.1.c0
      have b1 := HC.out.2.1.c1
      have b2 := HC.out.2.1.c2
      have b3 := HC.out.2.1.c3
      have b4 := HC.out.2.1.c4
      have b5 := HC.out.2.1.c5
      have f0 := HC.out.2.2.1.f0
      have f1 := HC.out.2.2.1.f1
      have f2 := HC.out.2.2.1.f2
      have f3 := HC.out.2.2.1.f3
      have f4 := HC.out.2.2.1.f4
      have f5 := HC.out.2.2.1.f5
      have hB := HC.out.2.2.2
      go_wp2_with fail
      have zw := HC.out.2.1.wrote (up (low s)) k (cleanN k n) (min lo hi) (max lo hi) (up (lp p))
      have hZ := st6_below HC.out.2.2.2 (N + 1) (Nat.le_succ _) (.int .i64 (up (low s))) (.bool k) (.int .i64 (cleanN k n)) (.int .i64 (min lo hi)) (.int .i64 (max lo hi)) (.int .i64 (up (lp p)))
      clear HC hB e1 e2 d1 d2 a0 a1 a2 a3 a4 a5 b0 b1 b2 b3 b4 b5 f0 f1 f2 f3 f4 f5
      have a0 := zw.c0
      have a1 := zw.c1
      have a2 := zw.c2
      have a3 := zw.c3
      have a4 := zw.c4
      have a5 := zw.c5
      clear zw
      refine bodyPost_ret (by simp [results, Try.results25, go_sem, *]; try rfl) rfl ⟨?_, by rw [← HN.out]; exact hZ⟩
      rw [HQ.out] <;> rfl
end Go.Proofs.Ytmhicllhjiglkaa
