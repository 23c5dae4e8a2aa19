import Derived.Test.YtmhicllhjiglkaaG05
import Derived.Deep.RegionHeld3
namespace Go.Proofs.Ytmhicllhjiglkaa
open Go.RowKit
/-- how many registers -/
theorem regs_any (r : Bool) (a b : Option Addr) (n c m d : Nat) (w : World) :
    Calls Try.prog 51 #[.agg #[.bool r, .slice a n c, .slice b m d]] w fun e w' => e = .returned (.int .i64 ((min n m : Nat) : Int)) ∧ Below w.heap.size w w' := by
  by_cases h : n ≤ m
  · have e : min n m = n := Nat.min_eq_left h
    rw [e]
    have h2 : (n : Int) ≤ m := by omega
    go_enter Try.func51, Try.ntmps51
    go_wp2
    go_ret
    exact ⟨by simp; try omega, (Below.refl _ _).alloc (Nat.le_refl _) _⟩
  · have e : min n m = m := Nat.min_eq_right (by omega)
    rw [e]
    have h2 : (m : Int) ≤ n := by omega
    go_enter Try.func51, Try.ntmps51
    go_wp2
    go_ret
    exact ⟨by simp; try omega, (Below.refl _ _).alloc (Nat.le_refl _) _⟩
/-- a State that is Right, of n registers at most, and sites below k -/
structure SOk (s : S) (us : List V) (n k : Nat) : Prop where
  vs : s.vs = us.map V.raw
  len : s.ss.length = us.length
  le : us.length ≤ n
  ok : ∀ u ∈ us, u.ok
  up : ∀ l ∈ s.ss, UpP l ∧ (∀ y ∈ l, 0 ≤ y ∧ y < (k : Int)) ∧ l.length ≤ 60
  nr : s.r = false → us = []
/-- what is made so far -/
structure OKs (us : List V) (ts : List (List Int)) (k : Nat) : Prop where
  len : ts.length = us.length
  ok : ∀ u ∈ us, u.ok
  up : ∀ l ∈ ts, UpP l ∧ (∀ y ∈ l, 0 ≤ y ∧ y < (k : Int)) ∧ l.length ≤ 60
theorem OKs.app {us : List V} {ts : List (List Int)} {k : Nat} (h : OKs us ts k) {u : V} (hu : u.ok) {l lst : List Int} (h1 : UpP l) (h2 : ∀ y, y ∈ l ↔ y ∈ lst) (h3 : l.length ≤ lst.length) (h4 : ∀ y ∈ lst, 0 ≤ y ∧ y < (k : Int)) (h5 : lst.length ≤ 60) : OKs (us ++ [u]) (ts ++ [l]) k := by
  refine ⟨by simp [h.len], fun v hv => ?_, fun m hm => ?_⟩
  · rcases List.mem_append.1 hv with hv | hv
    · exact h.ok v hv
    · simp at hv; subst hv; exact hu
  · rcases List.mem_append.1 hm with hm | hm
    · exact h.up m hm
    · simp at hm; subst hm; exact ⟨h1, fun y hy => h4 y ((h2 y).1 hy), by omega⟩
theorem B6.newV (w : World) (u : V) (t : TypeId) : B6 (w.alloc (.cells #[.int .i64 (up u.s), .bool u.k, .int .i64 u.n, .int .i64 u.lo, .int .i64 u.hi, .int .i64 (up u.p)] t)) w.heap.size 0 u.raw := B6.new w u.raw t
theorem rs_none (w : World) : Rs w (.agg #[.bool false, .slice none 0 0, .slice none 0 0]) ⟨false, [], []⟩ := ⟨none, 0, none, 0, rfl, RV.nil _ _, RR.nil _ _, Nat.le_refl _, Nat.le_refl _, fun _ => rfl, fun _ => rfl⟩
theorem mod_lo (x : Int) (k : Nat) (hk : 0 < k) (h : k ≤ 4096) : 0 ≤ x % (k : Int) ∧ x % (k : Int) < k := ⟨Int.emod_nonneg _ (by omega), Int.emod_lt_of_pos _ (by omega)⟩
theorem site_ok (y : Int) (sk : Nat) (h : 0 < sk) (h2 : sk ≤ 4096) : 0 ≤ wrap64 ((IntKind.u64.wrap y).tmod sk) ∧ wrap64 ((IntKind.u64.wrap y).tmod sk) < sk := by
  have h0 : 0 ≤ IntKind.u64.wrap y := by
    unfold IntKind.wrap
    simp [IntKind.signed, IntKind.bits]
    omega
  rw [Int.tmod_eq_emod_of_nonneg h0]
  have a := Int.emod_nonneg (IntKind.u64.wrap y) (show (sk : Int) ≠ 0 by omega)
  have b := Int.emod_lt_of_pos (IntKind.u64.wrap y) (show (0 : Int) < sk by omega)
  generalize IntKind.u64.wrap y % (sk : Int) = z at *
  have e : wrap64 z = z := by
    unfold wrap64
    omega
  rw [e]
  exact ⟨a, b⟩
end Go.Proofs.Ytmhicllhjiglkaa
namespace Go.Proofs.Ytmhicllhjiglkaa
open Go.RowKit
set_option maxRecDepth 100000 in
set_option maxHeartbeats 8000000 in
theorem fix_S (a b : Option Addr) (c d : Nat) (r : Bool) (vs : List R) (ss : List (List Int)) (n sk : Nat) (w : World) (hv : RV w a vs) (hs : RR w b ss) (hvi : ∀ (m : Nat) (x : R), vs[m]? = some x → i64 x.n ∧ i64 x.lo ∧ i64 x.hi) (hn : n ≤ 100) (hk0 : 0 < sk) (hk1 : sk ≤ 4096) :
    Calls Try.prog 38 #[.agg #[.bool r, .slice a vs.length c, .slice b ss.length d], .int .i64 n, .int .i64 sk] w fun e w' => ∃ v, e = .returned v ∧ Below w.heap.size w w' ∧ ∃ s, Rn w' w.heap.size v s ∧ ∃ us, SOk s us n sk := by
  have HV := hide hv
  have HR := hide hs
  have HVI := hide hvi
  clear hv hs hvi
  cases r with
  | false =>
    go_enter Try.func38, Try.ntmps38
    go_wp2
    exact bodyPost_ret (by simp [results, Try.results38, go_sem]; try rfl) rfl ⟨_, rfl, (by repeat (first | exact Below.refl _ _ | (refine Below.setCell ?_ (by first | omega | (simp; done) | (simp; omega)) _) | (refine Below.alloc ?_ (by first | omega | (simp; done) | (simp; omega)) _))), ⟨false, [], []⟩, rn_none _ _, [], ⟨rfl, rfl, Nat.zero_le _, (fun u hu => by cases hu), (fun l hl => by cases hl), fun _ => rfl⟩⟩
  | true =>
    go_enter Try.func38, Try.ntmps38
    go_upto_region 4 with fail
    go_name_world W hW
    obtain ⟨q2, h2⟩ : ∃ z9, z9 = w.heap.size + 1 + 1 := ⟨_, rfl⟩
    rw [← h2]
    obtain ⟨q1, h1⟩ : ∃ z9, z9 = w.heap.size + 1 := ⟨_, rfl⟩
    rw [← h1]
    obtain ⟨q0, h0⟩ : ∃ z9, z9 = w.heap.size := ⟨_, rfl⟩
    rw [← h0]
    have FQ : Hid (q0 < q2 ∧ q1 < q2 ∧ w.heap.size ≤ q2 ∧ w.heap.size ≤ q1) := by unfold Hid; omega
    have H1 : Hid ((Bs W q0 true (.slice a vs.length c) (.slice b ss.length d) ∧ Bs W q1 false (.slice none 0 0) (.slice none 0 0) ∧ Fs W q1) ∧ Lo W (q2 + 1) q2 48 ⟨true, [], []⟩ (.slice none 0 0) (.slice none 0 0) [] ∧ Below w.heap.size w W ∧ OKs [] [] sk) := by
      unfold Hid
      rw [h2, h1, h0]
      obtain ⟨B0, -, B1, F1, B2, F2, u⟩ := boxes3 w _ _ _ _ _ _ _ _ _ _ _ _ W hW
      exact ⟨⟨B0, B1, F1⟩, Lo.start _ B2 F2 (Nat.lt_succ_self _), u, ⟨rfl, (fun u hu => by cases hu), (fun l hl => by cases hl)⟩⟩
    clear hW h2 h1 h0
    go_wp2_with fail
    go_loopw [8] (fun s8 wr => ∃ (k : Nat) (us : List V) (ts : List (List Int)) (va sa : Value) (es : List Value), s8 = .int .i64 k ∧ k ≤ n ∧ us.length = k ∧ Hid ((Bs wr q0 true (.slice a vs.length c) (.slice b ss.length d) ∧ Bs wr q1 false (.slice none 0 0) (.slice none 0 0) ∧ Fs wr q1) ∧ Lo wr (q2 + 1) q2 48 ⟨true, us.map V.raw, ts⟩ va sa es ∧ Below w.heap.size w wr ∧ OKs us ts sk)) (fun s8 _ => n - (intOf s8).toNat)
    case atStart => exact ⟨0, [], [], _, _, _, rfl, Nat.zero_le _, rfl, H1.out⟩
    case round =>
      obtain ⟨k, us, ts, va, sa, es, rfl, hk, hu, h4⟩ := hrel
      replace hu := hide hu
      clear H1
      have e0 := h4.out.1.1.c0
      have e1 := h4.out.1.1.c1
      have e2 := h4.out.1.1.c2
      have hkn : (k : Int) ≤ n := by omega
      have cR := fun w => regs_any true a b vs.length c ss.length d w
      by_cases hm : k < min vs.length ss.length
      · have hm2 : (k : Int) < ((min vs.length ss.length : Nat) : Int) := by omega
        have hm3 : k < vs.length ∧ k < ss.length := by omega
        generalize min vs.length ss.length = M at *
        by_cases hn2 : k < n
        · have hn3 : (k : Int) < n := by omega
          obtain ⟨b1, o1, x, hX, rfl, hx6⟩ := HV.out.at hm3.1
          obtain ⟨b2, o2, l, ai, ci, hX2, rfl, hc1, hc2, hc3, hc4⟩ := HR.out.at hm3.2
          have hkv : (k : Int) < vs.length := by omega
          have hks : (k : Int) < ss.length := by omega
          have H6 := hide hx6
          have HFI := hide (HVI.out k x hX)
          have H2 := hide (And.intro hc1 hc2)
          have HN : Hid (ai = none → ci = 0 ∧ l = []) := fun e => ⟨hc4 e, List.eq_nil_of_length_eq_zero (by have := hc4 e; omega)⟩
          clear hX hX2 hx6 hc1 hc2 hc3 hc4
          go_upto_block 2 with (go_at_call 51; refine (cR _).mono ?_; rintro e W ⟨rfl, hA⟩)
          have h5 : Hid ((Bs W q0 true (.slice (some ⟨b1, o1, none⟩) vs.length c) (.slice (some ⟨b2, o2, none⟩) ss.length d) ∧ Bs W q1 false (.slice none 0 0) (.slice none 0 0) ∧ Fs W q1) ∧ Lo W (q2 + 1) q2 48 ⟨true, us.map V.raw, ts⟩ va sa es ∧ Below w.heap.size w W) := ⟨⟨h4.out.1.1.keep hA, h4.out.1.2.1.keep hA, h4.out.1.2.2.of (hA.block q1 h4.out.1.2.1.lt)⟩, h4.out.2.1.of hA, h4.out.2.2.1.trans (hA.mono h4.out.2.2.1.size)⟩
          have HOK := hide h4.out.2.2.2
          clear h4 e0 e1 e2 cR hA
          go_cut [9] (fun s9 wx => ∃ (lst : List Int), lst.length ≤ 60 ∧ Hid (St W wx s9 lst ∧ ∀ y ∈ lst, 0 ≤ y ∧ y < (sk : Int)))
          case first =>
            go_wp2_with fail
            go_loopw [9, 10] (fun s9 s10 wr => ∃ (lst : List Int), s10 = .int .i64 lst.length ∧ lst.length ≤ 60 ∧ Hid (St W wr s9 lst ∧ ∀ y ∈ lst, 0 ≤ y ∧ y < (sk : Int))) (fun _ s10 _ => 60 - (intOf s10).toNat)
            case atStart => exact ⟨[], rfl, by simp, ⟨St.start W, (fun y hy => by cases hy)⟩⟩
            case round =>
              obtain ⟨lst, rfl, hi, h6⟩ := hrel
              obtain ⟨a9, c9, rfl⟩ := h6.out.1.slice
              have e2 := (h5.out.1.1.keep h6.out.1.bel).c2
              have e3 := ((h5.out.2.2.trans (h6.out.1.bel.mono h5.out.2.2.size)).cell (p := ⟨b2, o2 + k, none⟩) (World.block_lt_of_cell? w _ H2.out.1)).trans H2.out.1
              have HLr := hide (H2.out.2.keep' (h5.out.2.2.trans (h6.out.1.bel.mono h5.out.2.2.size)))
              by_cases hil : lst.length < l.length
              · have hil2 : (lst.length : Int) < l.length := by omega
                by_cases hi60 : lst.length < 60
                · have hi61 : (lst.length : Int) < 60 := by omega
                  obtain ⟨b3, o3, rfl, hc⟩ := HLr.out.at hil
                  generalize l.getD lst.length 0 = y at *
                  go_upto_region 11 with fail
                  go_wp2_with (at_builtin; refine wpList_app1 W wr rfl (.tmp 41) (.tmp 55) rfl _ lst _ h6.out.1 rfl rfl (by omega) ?_; intro a2 c2 w2 hS2; replace hS2 := hide hS2)
                  have HZ := hide (site_ok y sk hk0 hk1)
                  generalize wrap64 ((IntKind.u64.wrap y).tmod ↑sk) = z at *
                  exact ⟨⟨lst ++ [z], by simp, by simp; omega, ⟨by simpa using hS2.out, fun t ht => by
                    rcases List.mem_append.1 ht with ht | ht
                    · exact h6.out.2 t ht
                    · simp at ht; subst ht; exact HZ.out⟩⟩, by simp [intOf]; omega⟩
                · have hi61 : ¬ (lst.length : Int) < 60 := by omega
                  go_wp2_with fail
                  go_meet
                  case rel => exact ⟨lst, by omega, h6.out⟩
              · have hil2 : ¬ (lst.length : Int) < l.length := by omega
                go_wp2_with fail
                go_meet
                case rel => exact ⟨lst, by omega, h6.out⟩
          case rest =>
            obtain ⟨lst, hll, h7⟩ := hcut
            obtain ⟨a9, c9, rfl⟩ := h7.out.1.slice
            have HLS := hide h7.out.2
            go_upto_region 12 with fail
            go_name_world W3 hW3
            rw [hW3] at h7
            clear hW3
            have u7 := h7.out.1.bel
            have KW : Hid (Bs W3 q0 true (.slice (some ⟨b1, o1, none⟩) vs.length c) (.slice (some ⟨b2, o2, none⟩) ss.length d) ∧ Bs W3 q1 false (.slice none 0 0) (.slice none 0 0) ∧ Fs W3 q1) := ⟨h5.out.1.1.keep u7, h5.out.1.2.1.keep u7, h5.out.1.2.2.of (u7.block q1 h5.out.1.2.1.lt)⟩
            have LW := hide (h5.out.2.1.of u7)
            have BW := hide (h5.out.2.2.trans (u7.mono h5.out.2.2.size))
            have HJ := hide (h7.out.1.owi (Nat.succ_le_of_lt h5.out.2.1.bx.lt))
            obtain ⟨pv, hpv⟩ : ∃ z9, z9 = us.map V.raw := ⟨_, rfl⟩
            have hlv : pv.length ≤ 1000000 := by rw [hpv, List.length_map]; have := hu.out; omega
            rw [← hpv] at LW
            have HPV := hide hpv
            clear hpv h7 u7 h5
            have HS : Hid (∀ w', Below q2 W3 w' → (w'.cell? ⟨q0, 1, none⟩ = some (.slice (some ⟨b1, o1, none⟩) vs.length c) ∧ w'.cell? ⟨b1, o1 + k * 6, none⟩ = some (.int .i64 x.s) ∧ w'.cell? ⟨b1, o1 + k * 6 + 1, none⟩ = some (.bool x.k) ∧ w'.cell? ⟨b1, o1 + k * 6 + 2, none⟩ = some (.int .i64 x.n) ∧ w'.cell? ⟨b1, o1 + k * 6 + 3, none⟩ = some (.int .i64 x.lo) ∧ w'.cell? ⟨b1, o1 + k * 6 + 4, none⟩ = some (.int .i64 x.hi) ∧ w'.cell? ⟨b1, o1 + k * 6 + 5, none⟩ = some (.int .i64 x.p))) := fun w' h => by
              have t := H6.out.keep (BW.out.trans (h.mono FQ.out.2.2.1))
              exact ⟨(h.cell (p := ⟨q0, 1, none⟩) FQ.out.1).trans KW.out.1.c1, t.c0, t.c1, t.c2, t.c3, t.c4, t.c5⟩
            have cF := fun w => fix_V x.s x.k x.n x.lo x.hi x.p w
            have HUK := hide (fix_ok x.s x.k x.n x.lo x.hi x.p HFI.out.1 HFI.out.2.1 HFI.out.2.2)
            generalize fixV x.s x.k x.n x.lo x.hi x.p = u at *
            go_cut [] (fun wx => ∃ va, Hid ((Bs wx q0 true (.slice (some ⟨b1, o1, none⟩) vs.length c) (.slice (some ⟨b2, o2, none⟩) ss.length d) ∧ Bs wx q1 false (.slice none 0 0) (.slice none 0 0) ∧ Fs wx q1) ∧ Lo wx (q2 + 1) q2 48 ⟨true, (us ++ [u]).map V.raw, ts⟩ va sa es ∧ Below w.heap.size w wx ∧ OwI wx (q2 + 1) (.slice a9 lst.length c9) lst))
            case first =>
              refine wp_region_held_drew (S := fun w' => w'.cell? ⟨q0, 1, none⟩ = some (.slice (some ⟨b1, o1, none⟩) vs.length c) ∧ w'.cell? ⟨b1, o1 + k * 6, none⟩ = some (.int .i64 x.s) ∧ w'.cell? ⟨b1, o1 + k * 6 + 1, none⟩ = some (.bool x.k) ∧ w'.cell? ⟨b1, o1 + k * 6 + 2, none⟩ = some (.int .i64 x.n) ∧ w'.cell? ⟨b1, o1 + k * 6 + 3, none⟩ = some (.int .i64 x.lo) ∧ w'.cell? ⟨b1, o1 + k * 6 + 4, none⟩ = some (.int .i64 x.hi) ∧ w'.cell? ⟨b1, o1 + k * 6 + 5, none⟩ = some (.int .i64 x.p)) (by kernel_rfl) (HS.out _ (Below.refl _ _).drew) (fun hH0 => ?_)
              obtain ⟨w0, hw0⟩ : ∃ w0, w0 = W3.drew := ⟨_, rfl⟩
              (try rw [← hw0] at hH0)
              rw [← hw0]
              have L0 : Hid (Lo w0 (q2 + 1) q2 48 ⟨true, pv, ts⟩ va sa es) := hw0 ▸ hide (LW.out.of (Below.refl _ _).drew)
              have b0 : Hid (Below q2 W3 w0) := hw0 ▸ hide (Below.refl _ _).drew
              have J0 : Hid (OwI w0 (q2 + 1) (.slice a9 lst.length c9) lst) := hw0 ▸ hide (HJ.out.of (fun _ _ => rfl))
              clear hw0
              refine wpAnyH_take (i := 0) (oi := ({ dst := some 57, op := Op.fieldAddr 25 (Operand.tmp 7) 1, type := 0, pos := _, after := _, guard := _ } : Oper)) (v := ?_) rfl (by kernel_rfl) (by kernel_rfl) (by kernel_rfl) (fun _ _ _ h => h) (Or.inl ⟨by rfl, ?_⟩) (by assumption) ?_
              rotate_left
              · (intro wz hSw; (try dsimp only at hSw); go_simp; try with_reducible rfl)
              simp only [Act.put, List.setIfInBounds_toArray, List.set_cons_zero, List.set_cons_succ]
              refine wpAnyH_take (i := 2) (oi := ({ dst := some 59, op := Op.fieldAddr 25 (Operand.tmp 3) 1, type := 0, pos := _, after := _, guard := _ } : Oper)) (v := ?_) rfl (by kernel_rfl) (by kernel_rfl) (by kernel_rfl) (fun _ _ _ h => h) (Or.inl ⟨by rfl, ?_⟩) (by assumption) ?_
              rotate_left
              · (intro wz hSw; (try dsimp only at hSw); go_simp; try with_reducible rfl)
              simp only [Act.put, List.setIfInBounds_toArray, List.set_cons_zero, List.set_cons_succ]
              refine wpAnyH_take (i := 3) (oi := ({ dst := some 60, op := Op.load 22 (Operand.tmp 59), type := 22, pos := _, after := _, guard := _ } : Oper)) (v := ?_) rfl (by kernel_rfl) (by kernel_rfl) (by kernel_rfl) (fun _ _ _ h => h) (Or.inl ⟨by rfl, ?_⟩) (by assumption) ?_
              rotate_left
              · (intro wz hSw; (try dsimp only at hSw); go_simp; try with_reducible rfl)
              simp only [Act.put, List.setIfInBounds_toArray, List.set_cons_zero, List.set_cons_succ]
              refine wpAnyH_take (i := 4) (oi := ({ dst := some 61, op := Op.move (Operand.tmp 8), type := 3, pos := _, after := _, guard := _ } : Oper)) (v := ?_) rfl (by kernel_rfl) (by kernel_rfl) (by kernel_rfl) (fun _ _ _ h => h) (Or.inl ⟨by rfl, ?_⟩) (by assumption) ?_
              rotate_left
              · (intro wz hSw; (try dsimp only at hSw); go_simp; try with_reducible rfl)
              simp only [Act.put, List.setIfInBounds_toArray, List.set_cons_zero, List.set_cons_succ]
              refine wpAnyH_take (i := 5) (oi := ({ dst := some 62, op := Op.indexAddr 22 (Operand.tmp 60) (Operand.tmp 61), type := 0, pos := _, after := _, guard := _ } : Oper)) (v := ?_) rfl (by kernel_rfl) (by kernel_rfl) (by kernel_rfl) (fun _ _ _ h => h) (Or.inl ⟨by rfl, ?_⟩) (by assumption) ?_
              rotate_left
              · (intro wz hSw; (try dsimp only at hSw); go_simp; try with_reducible rfl)
              simp only [Act.put, List.setIfInBounds_toArray, List.set_cons_zero, List.set_cons_succ]
              refine wpAnyH_take (i := 6) (oi := ({ dst := some 63, op := Op.load 48 (Operand.tmp 62), type := 48, pos := _, after := _, guard := _ } : Oper)) (v := ?_) rfl (by kernel_rfl) (by kernel_rfl) (by kernel_rfl) (fun _ _ _ h => h) (Or.inl ⟨by rfl, ?_⟩) (by assumption) ?_
              rotate_left
              · (intro wz hSw; (try dsimp only at hSw); go_simp; try with_reducible rfl)
              simp only [Act.put, List.setIfInBounds_toArray, List.set_cons_zero, List.set_cons_succ]
              refine wpAnyH_ready (rs := [1, 7]) (by kernel_rfl) (by simp) ?_
              refine AllReadyH.cons (o := ({ dst := some 58, op := Op.load 22 (Operand.tmp 57), type := 22, pos := _, after := _, guard := _ } : Oper)) rfl (fun K hK => ?_) (AllReadyH.cons (o := ({ dst := some 64, op := Op.call { callee := Callee.value (Operand.func 25), args := #[Operand.tmp 63], argTypes := #[48] }, type := 48, pos := _, after := _, guard := _ } : Oper)) rfl (fun K hK => ?_) AllReadyH.nil)
              · have zc := L0.out.bx.c1
                go_simp
                refine hK.out _ _ hH0 (fun _ => ?_)
                clear hK K zc
                refine wpAnyH_ready (rs := [7]) (by kernel_rfl) (by simp) ?_
                refine AllReadyH.cons (o := ({ dst := some 64, op := Op.call { callee := Callee.value (Operand.func 25), args := #[Operand.tmp 63], argTypes := #[48] }, type := 48, pos := _, after := _, guard := _ } : Oper)) rfl (fun K hK => ?_) AllReadyH.nil
                · go_simp
                  go_at_call 25
                  refine (cF _).mono ?_
                  rintro e w1 ⟨rfl, hb1⟩
                  have L1 := hide (L0.out.of hb1)
                  have b1 := hide (b0.out.trans (hb1.mono (Nat.le_of_lt L0.out.bx.lt)))
                  have J1 := hide (J0.out.keep hb1)
                  refine hK.out _ _ (HS.out _ b1.out) (fun hH1 => ?_)
                  clear hK K hb1
                  refine wpAnyH_ready (rs := [8]) (by kernel_rfl) (by simp) ?_
                  refine AllReadyH.cons (o := ({ dst := some 65, op := Op.buildSlice 22 1 #[(0, Operand.tmp 64)], type := 22, pos := _, after := _, guard := _ } : Oper)) rfl (fun K hK => ?_) AllReadyH.nil
                  · go_simp
                    have hb2 : Below w1.heap.size w1 (w1.alloc (.cells #[.int .i64 (up u.s), .bool u.k, .int .i64 u.n, .int .i64 u.lo, .int .i64 u.hi, .int .i64 (up u.p)] 48)) := (Below.refl _ _).alloc (Nat.le_refl _) _
                    have L2 := hide (L1.out.of hb2)
                    have b2 := hide (b1.out.trans (hb2.mono (Nat.le_of_lt L1.out.bx.lt)))
                    have J2 := hide (J1.out.keep hb2)
                    have Y2 := hide (B6.newV w1 u 48)
                    refine hK.out _ _ (HS.out _ b2.out) (fun hH2 => ?_)
                    clear hK K hb2
                    obtain ⟨w2, hw2⟩ : ∃ z9, z9 = (w1.alloc (.cells #[.int .i64 (up u.s), .bool u.k, .int .i64 u.n, .int .i64 u.lo, .int .i64 u.hi, .int .i64 (up u.p)] 48)) := ⟨_, rfl⟩
                    rw [← hw2] at hH2 L2 b2 Y2 J2 ⊢
                    clear hw2
                    generalize w1.heap.size = nb at *
                    refine wpAnyH_ready (rs := [9]) (by kernel_rfl) (by simp) ?_
                    refine AllReadyH.cons (o := ({ dst := some 66, op := Op.call { callee := Callee.builtin Builtin.append, args := #[Operand.tmp 58, Operand.tmp 65], argTypes := #[22, 22] }, type := 22, pos := _, after := _, guard := _ } : Oper)) rfl (fun K hK => ?_) AllReadyH.nil
                    · refine wp_appV' w2 (q2 + 1) 22 48 Try.underlying22 info48p (.tmp 58) (.tmp 65) rfl _ pv u.raw nb L2.out.ov Y2.out rfl rfl ?_ (Nat.succ_le_of_lt L2.out.bx.lt) ?_
                      · first | omega | (simp; omega)
                      intro a3 c3 w3 hO3 hg3
                      have b3 := hide (L2.out.belV b2.out hg3)
                      refine hK.out _ _ (HS.out _ b3.out) (fun hH3 => ?_)
                      clear hK K
                      replace hO3 := hide hO3
                      replace hg3 := hide hg3
                      have J3 := hide (J2.out.of (fun k hk => hg3.out.block k (J2.out.lt k hk).2 (own_ne J2.out L2.out.ov (by decide) k hk)))
                      refine wpAnyH_take (i := 10) (oi := ({ dst := some 67, op := Op.fieldAddr 25 (Operand.tmp 7) 1, type := 0, pos := _, after := _, guard := _ } : Oper)) (v := ?_) rfl (by kernel_rfl) (by kernel_rfl) (by kernel_rfl) (fun _ _ _ h => h) (Or.inl ⟨by rfl, ?_⟩) (by assumption) ?_
                      rotate_left
                      · (intro wz hSw; (try dsimp only at hSw); go_simp; try with_reducible rfl)
                      simp only [Act.put, List.setIfInBounds_toArray, List.set_cons_zero, List.set_cons_succ]
                      refine wpAnyH_ready (rs := [11]) (by kernel_rfl) (by simp) ?_
                      refine AllReadyH.cons (o := ({ dst := none, op := Op.store 22 (Operand.tmp 67) (Operand.tmp 66), type := 0, pos := _, after := _, guard := _ } : Oper)) rfl (fun K hK => ?_) AllReadyH.nil
                      · have zb := (L2.out.boxV hg3.out).1
                        have zf := (L2.out.boxV hg3.out).2
                        have z0 := zb.c0
                        have z1 := zb.c1
                        have z2 := zb.c2
                        have y0 := zf.f0
                        have y1 := zf.f1
                        have y2 := zf.f2
                        clear zb zf
                        go_simp
                        have L4 := hide (L2.out.appV (by decide) (by decide) hO3.out hg3.out)
                        have b4 := hide (b3.out.setCell (p := ⟨q2, 1, none⟩) (Nat.le_refl _) (.slice a3 (pv.length + 1) c3))
                        have J4 := hide (J3.out.of (fun k hk => set_block w3 q2 1 (.slice a3 (pv.length + 1) c3) k (by have := (J3.out.lt k hk).1; omega)))
                        refine hK.out _ _ (HS.out _ b4.out) (fun hH4 => ?_)
                        clear hK K z0 z1 z2 y0 y1 y2
                        obtain ⟨w4, hw4⟩ : ∃ z9, z9 = w3.setCell ⟨q2, 1, none⟩ (.slice a3 (pv.length + 1) c3) := ⟨_, rfl⟩
                        rw [← hw4] at hH4 L4 b4 J4 ⊢
                        clear hw4
                        refine wpAnyH_done (by kernel_rfl) ?_ _
                        clear HS
                        go_wp2_with fail
                        go_meet
                        case rel => exact ⟨_, ⟨⟨KW.out.1.of (b4.out.block q0 FQ.out.1), KW.out.2.1.of (b4.out.block q1 FQ.out.2.1), KW.out.2.2.of (b4.out.block q1 FQ.out.2.1)⟩, by rw [List.map_append]; exact (HPV.out ▸ L4.out), BW.out.trans (b4.out.mono FQ.out.2.2.1), J4.out⟩⟩
              · go_simp
                go_at_call 25
                refine (cF _).mono ?_
                rintro e w1 ⟨rfl, hb1⟩
                have L1 := hide (L0.out.of hb1)
                have b1 := hide (b0.out.trans (hb1.mono (Nat.le_of_lt L0.out.bx.lt)))
                have J1 := hide (J0.out.keep hb1)
                refine hK.out _ _ (HS.out _ b1.out) (fun hH1 => ?_)
                clear hK K hb1
                refine wpAnyH_ready (rs := [1, 8]) (by kernel_rfl) (by simp) ?_
                refine AllReadyH.cons (o := ({ dst := some 58, op := Op.load 22 (Operand.tmp 57), type := 22, pos := _, after := _, guard := _ } : Oper)) rfl (fun K hK => ?_) (AllReadyH.cons (o := ({ dst := some 65, op := Op.buildSlice 22 1 #[(0, Operand.tmp 64)], type := 22, pos := _, after := _, guard := _ } : Oper)) rfl (fun K hK => ?_) AllReadyH.nil)
                · have zc := L1.out.bx.c1
                  go_simp
                  refine hK.out _ _ hH1 (fun _ => ?_)
                  clear hK K zc
                  refine wpAnyH_ready (rs := [8]) (by kernel_rfl) (by simp) ?_
                  refine AllReadyH.cons (o := ({ dst := some 65, op := Op.buildSlice 22 1 #[(0, Operand.tmp 64)], type := 22, pos := _, after := _, guard := _ } : Oper)) rfl (fun K hK => ?_) AllReadyH.nil
                  · go_simp
                    have hb2 : Below w1.heap.size w1 (w1.alloc (.cells #[.int .i64 (up u.s), .bool u.k, .int .i64 u.n, .int .i64 u.lo, .int .i64 u.hi, .int .i64 (up u.p)] 48)) := (Below.refl _ _).alloc (Nat.le_refl _) _
                    have L2 := hide (L1.out.of hb2)
                    have b2 := hide (b1.out.trans (hb2.mono (Nat.le_of_lt L1.out.bx.lt)))
                    have J2 := hide (J1.out.keep hb2)
                    have Y2 := hide (B6.newV w1 u 48)
                    refine hK.out _ _ (HS.out _ b2.out) (fun hH2 => ?_)
                    clear hK K hb2
                    obtain ⟨w2, hw2⟩ : ∃ z9, z9 = (w1.alloc (.cells #[.int .i64 (up u.s), .bool u.k, .int .i64 u.n, .int .i64 u.lo, .int .i64 u.hi, .int .i64 (up u.p)] 48)) := ⟨_, rfl⟩
                    rw [← hw2] at hH2 L2 b2 Y2 J2 ⊢
                    clear hw2
                    generalize w1.heap.size = nb at *
                    refine wpAnyH_ready (rs := [9]) (by kernel_rfl) (by simp) ?_
                    refine AllReadyH.cons (o := ({ dst := some 66, op := Op.call { callee := Callee.builtin Builtin.append, args := #[Operand.tmp 58, Operand.tmp 65], argTypes := #[22, 22] }, type := 22, pos := _, after := _, guard := _ } : Oper)) rfl (fun K hK => ?_) AllReadyH.nil
                    · refine wp_appV' w2 (q2 + 1) 22 48 Try.underlying22 info48p (.tmp 58) (.tmp 65) rfl _ pv u.raw nb L2.out.ov Y2.out rfl rfl ?_ (Nat.succ_le_of_lt L2.out.bx.lt) ?_
                      · first | omega | (simp; omega)
                      intro a3 c3 w3 hO3 hg3
                      have b3 := hide (L2.out.belV b2.out hg3)
                      refine hK.out _ _ (HS.out _ b3.out) (fun hH3 => ?_)
                      clear hK K
                      replace hO3 := hide hO3
                      replace hg3 := hide hg3
                      have J3 := hide (J2.out.of (fun k hk => hg3.out.block k (J2.out.lt k hk).2 (own_ne J2.out L2.out.ov (by decide) k hk)))
                      refine wpAnyH_take (i := 10) (oi := ({ dst := some 67, op := Op.fieldAddr 25 (Operand.tmp 7) 1, type := 0, pos := _, after := _, guard := _ } : Oper)) (v := ?_) rfl (by kernel_rfl) (by kernel_rfl) (by kernel_rfl) (fun _ _ _ h => h) (Or.inl ⟨by rfl, ?_⟩) (by assumption) ?_
                      rotate_left
                      · (intro wz hSw; (try dsimp only at hSw); go_simp; try with_reducible rfl)
                      simp only [Act.put, List.setIfInBounds_toArray, List.set_cons_zero, List.set_cons_succ]
                      refine wpAnyH_ready (rs := [11]) (by kernel_rfl) (by simp) ?_
                      refine AllReadyH.cons (o := ({ dst := none, op := Op.store 22 (Operand.tmp 67) (Operand.tmp 66), type := 0, pos := _, after := _, guard := _ } : Oper)) rfl (fun K hK => ?_) AllReadyH.nil
                      · have zb := (L2.out.boxV hg3.out).1
                        have zf := (L2.out.boxV hg3.out).2
                        have z0 := zb.c0
                        have z1 := zb.c1
                        have z2 := zb.c2
                        have y0 := zf.f0
                        have y1 := zf.f1
                        have y2 := zf.f2
                        clear zb zf
                        go_simp
                        have L4 := hide (L2.out.appV (by decide) (by decide) hO3.out hg3.out)
                        have b4 := hide (b3.out.setCell (p := ⟨q2, 1, none⟩) (Nat.le_refl _) (.slice a3 (pv.length + 1) c3))
                        have J4 := hide (J3.out.of (fun k hk => set_block w3 q2 1 (.slice a3 (pv.length + 1) c3) k (by have := (J3.out.lt k hk).1; omega)))
                        refine hK.out _ _ (HS.out _ b4.out) (fun hH4 => ?_)
                        clear hK K z0 z1 z2 y0 y1 y2
                        obtain ⟨w4, hw4⟩ : ∃ z9, z9 = w3.setCell ⟨q2, 1, none⟩ (.slice a3 (pv.length + 1) c3) := ⟨_, rfl⟩
                        rw [← hw4] at hH4 L4 b4 J4 ⊢
                        clear hw4
                        refine wpAnyH_done (by kernel_rfl) ?_ _
                        clear HS
                        go_wp2_with fail
                        go_meet
                        case rel => exact ⟨_, ⟨⟨KW.out.1.of (b4.out.block q0 FQ.out.1), KW.out.2.1.of (b4.out.block q1 FQ.out.2.1), KW.out.2.2.of (b4.out.block q1 FQ.out.2.1)⟩, by rw [List.map_append]; exact (HPV.out ▸ L4.out), BW.out.trans (b4.out.mono FQ.out.2.2.1), J4.out⟩⟩
                · go_simp
                  have hb2 : Below w1.heap.size w1 (w1.alloc (.cells #[.int .i64 (up u.s), .bool u.k, .int .i64 u.n, .int .i64 u.lo, .int .i64 u.hi, .int .i64 (up u.p)] 48)) := (Below.refl _ _).alloc (Nat.le_refl _) _
                  have L2 := hide (L1.out.of hb2)
                  have b2 := hide (b1.out.trans (hb2.mono (Nat.le_of_lt L1.out.bx.lt)))
                  have J2 := hide (J1.out.keep hb2)
                  have Y2 := hide (B6.newV w1 u 48)
                  refine hK.out _ _ (HS.out _ b2.out) (fun hH2 => ?_)
                  clear hK K hb2
                  obtain ⟨w2, hw2⟩ : ∃ z9, z9 = (w1.alloc (.cells #[.int .i64 (up u.s), .bool u.k, .int .i64 u.n, .int .i64 u.lo, .int .i64 u.hi, .int .i64 (up u.p)] 48)) := ⟨_, rfl⟩
                  rw [← hw2] at hH2 L2 b2 Y2 J2 ⊢
                  clear hw2
                  generalize w1.heap.size = nb at *
                  refine wpAnyH_ready (rs := [1]) (by kernel_rfl) (by simp) ?_
                  refine AllReadyH.cons (o := ({ dst := some 58, op := Op.load 22 (Operand.tmp 57), type := 22, pos := _, after := _, guard := _ } : Oper)) rfl (fun K hK => ?_) AllReadyH.nil
                  · have zc := L2.out.bx.c1
                    go_simp
                    refine hK.out _ _ hH2 (fun _ => ?_)
                    clear hK K zc
                    refine wpAnyH_ready (rs := [9]) (by kernel_rfl) (by simp) ?_
                    refine AllReadyH.cons (o := ({ dst := some 66, op := Op.call { callee := Callee.builtin Builtin.append, args := #[Operand.tmp 58, Operand.tmp 65], argTypes := #[22, 22] }, type := 22, pos := _, after := _, guard := _ } : Oper)) rfl (fun K hK => ?_) AllReadyH.nil
                    · refine wp_appV' w2 (q2 + 1) 22 48 Try.underlying22 info48p (.tmp 58) (.tmp 65) rfl _ pv u.raw nb L2.out.ov Y2.out rfl rfl ?_ (Nat.succ_le_of_lt L2.out.bx.lt) ?_
                      · first | omega | (simp; omega)
                      intro a3 c3 w3 hO3 hg3
                      have b3 := hide (L2.out.belV b2.out hg3)
                      refine hK.out _ _ (HS.out _ b3.out) (fun hH3 => ?_)
                      clear hK K
                      replace hO3 := hide hO3
                      replace hg3 := hide hg3
                      have J3 := hide (J2.out.of (fun k hk => hg3.out.block k (J2.out.lt k hk).2 (own_ne J2.out L2.out.ov (by decide) k hk)))
                      refine wpAnyH_take (i := 10) (oi := ({ dst := some 67, op := Op.fieldAddr 25 (Operand.tmp 7) 1, type := 0, pos := _, after := _, guard := _ } : Oper)) (v := ?_) rfl (by kernel_rfl) (by kernel_rfl) (by kernel_rfl) (fun _ _ _ h => h) (Or.inl ⟨by rfl, ?_⟩) (by assumption) ?_
                      rotate_left
                      · (intro wz hSw; (try dsimp only at hSw); go_simp; try with_reducible rfl)
                      simp only [Act.put, List.setIfInBounds_toArray, List.set_cons_zero, List.set_cons_succ]
                      refine wpAnyH_ready (rs := [11]) (by kernel_rfl) (by simp) ?_
                      refine AllReadyH.cons (o := ({ dst := none, op := Op.store 22 (Operand.tmp 67) (Operand.tmp 66), type := 0, pos := _, after := _, guard := _ } : Oper)) rfl (fun K hK => ?_) AllReadyH.nil
                      · have zb := (L2.out.boxV hg3.out).1
                        have zf := (L2.out.boxV hg3.out).2
                        have z0 := zb.c0
                        have z1 := zb.c1
                        have z2 := zb.c2
                        have y0 := zf.f0
                        have y1 := zf.f1
                        have y2 := zf.f2
                        clear zb zf
                        go_simp
                        have L4 := hide (L2.out.appV (by decide) (by decide) hO3.out hg3.out)
                        have b4 := hide (b3.out.setCell (p := ⟨q2, 1, none⟩) (Nat.le_refl _) (.slice a3 (pv.length + 1) c3))
                        have J4 := hide (J3.out.of (fun k hk => set_block w3 q2 1 (.slice a3 (pv.length + 1) c3) k (by have := (J3.out.lt k hk).1; omega)))
                        refine hK.out _ _ (HS.out _ b4.out) (fun hH4 => ?_)
                        clear hK K z0 z1 z2 y0 y1 y2
                        obtain ⟨w4, hw4⟩ : ∃ z9, z9 = w3.setCell ⟨q2, 1, none⟩ (.slice a3 (pv.length + 1) c3) := ⟨_, rfl⟩
                        rw [← hw4] at hH4 L4 b4 J4 ⊢
                        clear hw4
                        refine wpAnyH_done (by kernel_rfl) ?_ _
                        clear HS
                        go_wp2_with fail
                        go_meet
                        case rel => exact ⟨_, ⟨⟨KW.out.1.of (b4.out.block q0 FQ.out.1), KW.out.2.1.of (b4.out.block q1 FQ.out.2.1), KW.out.2.2.of (b4.out.block q1 FQ.out.2.1)⟩, by rw [List.map_append]; exact (HPV.out ▸ L4.out), BW.out.trans (b4.out.mono FQ.out.2.2.1), J4.out⟩⟩
            case rest =>
              obtain ⟨va3, h8⟩ := hcut
              clear KW LW BW HS HJ cF H6 HFI HPV hlv
              go_upto_region 13 with fail
              go_name_world W hW
              rw [hW] at h8
              clear hW
              have KW := hide h8.out.1
              have LW := hide h8.out.2.1
              have BW := hide h8.out.2.2.1
              have HI : Hid (Ri W a9 lst) := by
                obtain ⟨a10, c10, e, h, -⟩ := h8.out.2.2.2.rl
                simp only [Value.slice.injEq] at e
                obtain ⟨rfl, -, rfl⟩ := e
                exact h
              clear h8
              refine wp_region_held_drew (S := fun w' => True) (by kernel_rfl) trivial (fun hH0 => ?_)
              obtain ⟨w0, hw0⟩ : ∃ w0, w0 = W.drew := ⟨_, rfl⟩
              (try rw [← hw0] at hH0)
              rw [← hw0]
              have L0 : Hid (Lo w0 (q2 + 1) q2 48 ⟨true, (us ++ [u]).map V.raw, ts⟩ va3 sa es) := hw0 ▸ hide (LW.out.of (Below.refl _ _).drew)
              have b0 : Hid (Below q2 W w0) := hw0 ▸ hide (Below.refl _ _).drew
              have HI0 : Hid (Ri w0 a9 lst) := hw0 ▸ HI
              clear hw0
              refine wpAnyH_take (i := 0) (oi := ({ dst := some 68, op := Op.fieldAddr 25 (Operand.tmp 7) 2, type := 0, pos := _, after := _, guard := _ } : Oper)) (v := ?_) rfl (by kernel_rfl) (by kernel_rfl) (by kernel_rfl) (fun _ _ _ h => h) (Or.inl ⟨by rfl, ?_⟩) (by assumption) ?_
              rotate_left
              · (intro wz hSw; (try dsimp only at hSw); go_simp; try with_reducible rfl)
              simp only [Act.put, List.setIfInBounds_toArray, List.set_cons_zero, List.set_cons_succ]
              refine wpAnyH_take (i := 2) (oi := ({ dst := some 70, op := Op.move (Operand.tmp 9), type := 38, pos := _, after := _, guard := _ } : Oper)) (v := ?_) rfl (by kernel_rfl) (by kernel_rfl) (by kernel_rfl) (fun _ _ _ h => h) (Or.inl ⟨by rfl, ?_⟩) (by assumption) ?_
              rotate_left
              · (intro wz hSw; (try dsimp only at hSw); go_simp; try with_reducible rfl)
              simp only [Act.put, List.setIfInBounds_toArray, List.set_cons_zero, List.set_cons_succ]
              refine wpAnyH_ready (rs := [1, 3]) (by kernel_rfl) (by simp) ?_
              refine AllReadyH.cons (o := ({ dst := some 69, op := Op.load 23 (Operand.tmp 68), type := 23, pos := _, after := _, guard := _ } : Oper)) rfl (fun K hK => ?_) (AllReadyH.cons (o := ({ dst := some 71, op := Op.call { callee := Callee.value (Operand.func 76), args := #[Operand.tmp 70], argTypes := #[38] }, type := 38, pos := _, after := _, guard := _ } : Oper)) rfl (fun K hK => ?_) AllReadyH.nil)
              · have zc := L0.out.bx.c2
                go_simp
                refine hK.out _ _ hH0 (fun _ => ?_)
                clear hK K zc
                refine wpAnyH_ready (rs := [3]) (by kernel_rfl) (by simp) ?_
                refine AllReadyH.cons (o := ({ dst := some 71, op := Op.call { callee := Callee.value (Operand.func 76), args := #[Operand.tmp 70], argTypes := #[38] }, type := 38, pos := _, after := _, guard := _ } : Oper)) rfl (fun K hK => ?_) AllReadyH.nil
                · go_simp
                  go_at_call 76
                  refine (rise_any lst a9 c9 _ HI0.out (by omega)).mono ?_
                  rintro e w1 ⟨v9, out, rfl, hS, hU, hM, hLn⟩
                  obtain ⟨ax, cx, rfl⟩ := hS.slice
                  have hb1 := hS.bel
                  have L1 := hide (L0.out.of hb1)
                  have b1 := hide (b0.out.trans (hb1.mono (Nat.le_of_lt L0.out.bx.lt)))
                  have I1 := hide (hS.owi (Nat.succ_le_of_lt L0.out.bx.lt))
                  have HU := hide (And.intro hU (And.intro hM hLn))
                  refine hK.out _ _ trivial (fun hH1 => ?_)
                  clear hK K hb1 hS hU hM hLn
                  refine wpAnyH_ready (rs := [4]) (by kernel_rfl) (by simp) ?_
                  refine AllReadyH.cons (o := ({ dst := some 72, op := Op.buildSlice 23 1 #[(0, Operand.tmp 71)], type := 23, pos := _, after := _, guard := _ } : Oper)) rfl (fun K hK => ?_) AllReadyH.nil
                  · go_simp
                    have hb2 : Below w1.heap.size w1 (w1.alloc (.cells #[(.slice ax out.length cx)] 38)) := (Below.refl _ _).alloc (Nat.le_refl _) _
                    have L2 := hide (L1.out.of hb2)
                    have b2 := hide (b1.out.trans (hb2.mono (Nat.le_of_lt L1.out.bx.lt)))
                    have I2 := hide (I1.out.keep hb2)
                    have Y2 := hide (C1.new w1 (.slice ax out.length cx) 38)
                    refine hK.out _ _ trivial (fun hH2 => ?_)
                    clear hK K hb2
                    obtain ⟨w2, hw2⟩ : ∃ z9, z9 = (w1.alloc (.cells #[(.slice ax out.length cx)] 38)) := ⟨_, rfl⟩
                    rw [← hw2] at L2 b2 Y2 I2 ⊢
                    clear hw2
                    generalize w1.heap.size = nc at *
                    refine wpAnyH_ready (rs := [5]) (by kernel_rfl) (by simp) ?_
                    refine AllReadyH.cons (o := ({ dst := some 73, op := Op.call { callee := Callee.builtin Builtin.append, args := #[Operand.tmp 69, Operand.tmp 72], argTypes := #[23, 23] }, type := 23, pos := _, after := _, guard := _ } : Oper)) rfl (fun K hK => ?_) AllReadyH.nil
                    · refine wp_appR' w2 (q2 + 1) (.tmp 69) (.tmp 72) rfl _ es (.slice ax out.length cx) nc rfl L2.out.os Y2.out.c rfl rfl ?_ (Nat.succ_le_of_lt L2.out.bx.lt) ?_
                      · (have t1 := L2.out.inn.1; have t2 := HOK.out.len; have t3 := hu.out; dsimp only at t1; omega)
                      intro a3 c3 w3 hO3 hg3
                      have b3 := hide (L2.out.belR b2.out hg3)
                      refine hK.out _ _ trivial (fun hH3 => ?_)
                      clear hK K
                      replace hO3 := hide hO3
                      replace hg3 := hide hg3
                      refine wpAnyH_take (i := 6) (oi := ({ dst := some 74, op := Op.fieldAddr 25 (Operand.tmp 7) 2, type := 0, pos := _, after := _, guard := _ } : Oper)) (v := ?_) rfl (by kernel_rfl) (by kernel_rfl) (by kernel_rfl) (fun _ _ _ h => h) (Or.inl ⟨by rfl, ?_⟩) (by assumption) ?_
                      rotate_left
                      · (intro wz hSw; (try dsimp only at hSw); go_simp; try with_reducible rfl)
                      simp only [Act.put, List.setIfInBounds_toArray, List.set_cons_zero, List.set_cons_succ]
                      refine wpAnyH_ready (rs := [7]) (by kernel_rfl) (by simp) ?_
                      refine AllReadyH.cons (o := ({ dst := none, op := Op.store 23 (Operand.tmp 74) (Operand.tmp 73), type := 0, pos := _, after := _, guard := _ } : Oper)) rfl (fun K hK => ?_) AllReadyH.nil
                      · have zb := (L2.out.boxR hg3.out).1
                        have zf := (L2.out.boxR hg3.out).2
                        have z0 := zb.c0
                        have z1 := zb.c1
                        have z2 := zb.c2
                        have y0 := zf.f0
                        have y1 := zf.f1
                        have y2 := zf.f2
                        clear zb zf
                        go_simp
                        have L4 := hide (L2.out.appR (by decide) I2.out hO3.out hg3.out)
                        have b4 := hide (b3.out.setCell (p := ⟨q2, 2, none⟩) (Nat.le_refl _) (.slice a3 (es.length + 1) c3))
                        refine hK.out _ _ trivial (fun hH4 => ?_)
                        clear hK K z0 z1 z2 y0 y1 y2
                        obtain ⟨w4, hw4⟩ : ∃ z9, z9 = w3.setCell ⟨q2, 2, none⟩ (.slice a3 (es.length + 1) c3) := ⟨_, rfl⟩
                        rw [← hw4] at L4 b4  ⊢
                        clear hw4
                        refine wpAnyH_done (by kernel_rfl) ?_ _
                        go_wp2_with fail
                        exact ⟨⟨k + 1, us ++ [u], ts ++ [out], _, _, _, by simp, by omega, by have t3 := hu.out; simp; omega, ⟨⟨KW.out.1.of (b4.out.block q0 FQ.out.1), KW.out.2.1.of (b4.out.block q1 FQ.out.2.1), KW.out.2.2.of (b4.out.block q1 FQ.out.2.1)⟩, L4.out, BW.out.trans (b4.out.mono FQ.out.2.2.1), HOK.out.app HUK.out HU.out.1 HU.out.2.1 HU.out.2.2 HLS.out hll⟩⟩, by simp [intOf]; omega⟩
              · go_simp
                go_at_call 76
                refine (rise_any lst a9 c9 _ HI0.out (by omega)).mono ?_
                rintro e w1 ⟨v9, out, rfl, hS, hU, hM, hLn⟩
                obtain ⟨ax, cx, rfl⟩ := hS.slice
                have hb1 := hS.bel
                have L1 := hide (L0.out.of hb1)
                have b1 := hide (b0.out.trans (hb1.mono (Nat.le_of_lt L0.out.bx.lt)))
                have I1 := hide (hS.owi (Nat.succ_le_of_lt L0.out.bx.lt))
                have HU := hide (And.intro hU (And.intro hM hLn))
                refine hK.out _ _ trivial (fun hH1 => ?_)
                clear hK K hb1 hS hU hM hLn
                refine wpAnyH_ready (rs := [1, 4]) (by kernel_rfl) (by simp) ?_
                refine AllReadyH.cons (o := ({ dst := some 69, op := Op.load 23 (Operand.tmp 68), type := 23, pos := _, after := _, guard := _ } : Oper)) rfl (fun K hK => ?_) (AllReadyH.cons (o := ({ dst := some 72, op := Op.buildSlice 23 1 #[(0, Operand.tmp 71)], type := 23, pos := _, after := _, guard := _ } : Oper)) rfl (fun K hK => ?_) AllReadyH.nil)
                · have zc := L1.out.bx.c2
                  go_simp
                  refine hK.out _ _ hH1 (fun _ => ?_)
                  clear hK K zc
                  refine wpAnyH_ready (rs := [4]) (by kernel_rfl) (by simp) ?_
                  refine AllReadyH.cons (o := ({ dst := some 72, op := Op.buildSlice 23 1 #[(0, Operand.tmp 71)], type := 23, pos := _, after := _, guard := _ } : Oper)) rfl (fun K hK => ?_) AllReadyH.nil
                  · go_simp
                    have hb2 : Below w1.heap.size w1 (w1.alloc (.cells #[(.slice ax out.length cx)] 38)) := (Below.refl _ _).alloc (Nat.le_refl _) _
                    have L2 := hide (L1.out.of hb2)
                    have b2 := hide (b1.out.trans (hb2.mono (Nat.le_of_lt L1.out.bx.lt)))
                    have I2 := hide (I1.out.keep hb2)
                    have Y2 := hide (C1.new w1 (.slice ax out.length cx) 38)
                    refine hK.out _ _ trivial (fun hH2 => ?_)
                    clear hK K hb2
                    obtain ⟨w2, hw2⟩ : ∃ z9, z9 = (w1.alloc (.cells #[(.slice ax out.length cx)] 38)) := ⟨_, rfl⟩
                    rw [← hw2] at L2 b2 Y2 I2 ⊢
                    clear hw2
                    generalize w1.heap.size = nc at *
                    refine wpAnyH_ready (rs := [5]) (by kernel_rfl) (by simp) ?_
                    refine AllReadyH.cons (o := ({ dst := some 73, op := Op.call { callee := Callee.builtin Builtin.append, args := #[Operand.tmp 69, Operand.tmp 72], argTypes := #[23, 23] }, type := 23, pos := _, after := _, guard := _ } : Oper)) rfl (fun K hK => ?_) AllReadyH.nil
                    · refine wp_appR' w2 (q2 + 1) (.tmp 69) (.tmp 72) rfl _ es (.slice ax out.length cx) nc rfl L2.out.os Y2.out.c rfl rfl ?_ (Nat.succ_le_of_lt L2.out.bx.lt) ?_
                      · (have t1 := L2.out.inn.1; have t2 := HOK.out.len; have t3 := hu.out; dsimp only at t1; omega)
                      intro a3 c3 w3 hO3 hg3
                      have b3 := hide (L2.out.belR b2.out hg3)
                      refine hK.out _ _ trivial (fun hH3 => ?_)
                      clear hK K
                      replace hO3 := hide hO3
                      replace hg3 := hide hg3
                      refine wpAnyH_take (i := 6) (oi := ({ dst := some 74, op := Op.fieldAddr 25 (Operand.tmp 7) 2, type := 0, pos := _, after := _, guard := _ } : Oper)) (v := ?_) rfl (by kernel_rfl) (by kernel_rfl) (by kernel_rfl) (fun _ _ _ h => h) (Or.inl ⟨by rfl, ?_⟩) (by assumption) ?_
                      rotate_left
                      · (intro wz hSw; (try dsimp only at hSw); go_simp; try with_reducible rfl)
                      simp only [Act.put, List.setIfInBounds_toArray, List.set_cons_zero, List.set_cons_succ]
                      refine wpAnyH_ready (rs := [7]) (by kernel_rfl) (by simp) ?_
                      refine AllReadyH.cons (o := ({ dst := none, op := Op.store 23 (Operand.tmp 74) (Operand.tmp 73), type := 0, pos := _, after := _, guard := _ } : Oper)) rfl (fun K hK => ?_) AllReadyH.nil
                      · have zb := (L2.out.boxR hg3.out).1
                        have zf := (L2.out.boxR hg3.out).2
                        have z0 := zb.c0
                        have z1 := zb.c1
                        have z2 := zb.c2
                        have y0 := zf.f0
                        have y1 := zf.f1
                        have y2 := zf.f2
                        clear zb zf
                        go_simp
                        have L4 := hide (L2.out.appR (by decide) I2.out hO3.out hg3.out)
                        have b4 := hide (b3.out.setCell (p := ⟨q2, 2, none⟩) (Nat.le_refl _) (.slice a3 (es.length + 1) c3))
                        refine hK.out _ _ trivial (fun hH4 => ?_)
                        clear hK K z0 z1 z2 y0 y1 y2
                        obtain ⟨w4, hw4⟩ : ∃ z9, z9 = w3.setCell ⟨q2, 2, none⟩ (.slice a3 (es.length + 1) c3) := ⟨_, rfl⟩
                        rw [← hw4] at L4 b4  ⊢
                        clear hw4
                        refine wpAnyH_done (by kernel_rfl) ?_ _
                        go_wp2_with fail
                        exact ⟨⟨k + 1, us ++ [u], ts ++ [out], _, _, _, by simp, by omega, by have t3 := hu.out; simp; omega, ⟨⟨KW.out.1.of (b4.out.block q0 FQ.out.1), KW.out.2.1.of (b4.out.block q1 FQ.out.2.1), KW.out.2.2.of (b4.out.block q1 FQ.out.2.1)⟩, L4.out, BW.out.trans (b4.out.mono FQ.out.2.2.1), HOK.out.app HUK.out HU.out.1 HU.out.2.1 HU.out.2.2 HLS.out hll⟩⟩, by simp [intOf]; omega⟩
                · go_simp
                  have hb2 : Below w1.heap.size w1 (w1.alloc (.cells #[(.slice ax out.length cx)] 38)) := (Below.refl _ _).alloc (Nat.le_refl _) _
                  have L2 := hide (L1.out.of hb2)
                  have b2 := hide (b1.out.trans (hb2.mono (Nat.le_of_lt L1.out.bx.lt)))
                  have I2 := hide (I1.out.keep hb2)
                  have Y2 := hide (C1.new w1 (.slice ax out.length cx) 38)
                  refine hK.out _ _ trivial (fun hH2 => ?_)
                  clear hK K hb2
                  obtain ⟨w2, hw2⟩ : ∃ z9, z9 = (w1.alloc (.cells #[(.slice ax out.length cx)] 38)) := ⟨_, rfl⟩
                  rw [← hw2] at L2 b2 Y2 I2 ⊢
                  clear hw2
                  generalize w1.heap.size = nc at *
                  refine wpAnyH_ready (rs := [1]) (by kernel_rfl) (by simp) ?_
                  refine AllReadyH.cons (o := ({ dst := some 69, op := Op.load 23 (Operand.tmp 68), type := 23, pos := _, after := _, guard := _ } : Oper)) rfl (fun K hK => ?_) AllReadyH.nil
                  · have zc := L2.out.bx.c2
                    go_simp
                    refine hK.out _ _ hH2 (fun _ => ?_)
                    clear hK K zc
                    refine wpAnyH_ready (rs := [5]) (by kernel_rfl) (by simp) ?_
                    refine AllReadyH.cons (o := ({ dst := some 73, op := Op.call { callee := Callee.builtin Builtin.append, args := #[Operand.tmp 69, Operand.tmp 72], argTypes := #[23, 23] }, type := 23, pos := _, after := _, guard := _ } : Oper)) rfl (fun K hK => ?_) AllReadyH.nil
                    · refine wp_appR' w2 (q2 + 1) (.tmp 69) (.tmp 72) rfl _ es (.slice ax out.length cx) nc rfl L2.out.os Y2.out.c rfl rfl ?_ (Nat.succ_le_of_lt L2.out.bx.lt) ?_
                      · (have t1 := L2.out.inn.1; have t2 := HOK.out.len; have t3 := hu.out; dsimp only at t1; omega)
                      intro a3 c3 w3 hO3 hg3
                      have b3 := hide (L2.out.belR b2.out hg3)
                      refine hK.out _ _ trivial (fun hH3 => ?_)
                      clear hK K
                      replace hO3 := hide hO3
                      replace hg3 := hide hg3
                      refine wpAnyH_take (i := 6) (oi := ({ dst := some 74, op := Op.fieldAddr 25 (Operand.tmp 7) 2, type := 0, pos := _, after := _, guard := _ } : Oper)) (v := ?_) rfl (by kernel_rfl) (by kernel_rfl) (by kernel_rfl) (fun _ _ _ h => h) (Or.inl ⟨by rfl, ?_⟩) (by assumption) ?_
                      rotate_left
                      · (intro wz hSw; (try dsimp only at hSw); go_simp; try with_reducible rfl)
                      simp only [Act.put, List.setIfInBounds_toArray, List.set_cons_zero, List.set_cons_succ]
                      refine wpAnyH_ready (rs := [7]) (by kernel_rfl) (by simp) ?_
                      refine AllReadyH.cons (o := ({ dst := none, op := Op.store 23 (Operand.tmp 74) (Operand.tmp 73), type := 0, pos := _, after := _, guard := _ } : Oper)) rfl (fun K hK => ?_) AllReadyH.nil
                      · have zb := (L2.out.boxR hg3.out).1
                        have zf := (L2.out.boxR hg3.out).2
                        have z0 := zb.c0
                        have z1 := zb.c1
                        have z2 := zb.c2
                        have y0 := zf.f0
                        have y1 := zf.f1
                        have y2 := zf.f2
                        clear zb zf
                        go_simp
                        have L4 := hide (L2.out.appR (by decide) I2.out hO3.out hg3.out)
                        have b4 := hide (b3.out.setCell (p := ⟨q2, 2, none⟩) (Nat.le_refl _) (.slice a3 (es.length + 1) c3))
                        refine hK.out _ _ trivial (fun hH4 => ?_)
                        clear hK K z0 z1 z2 y0 y1 y2
                        obtain ⟨w4, hw4⟩ : ∃ z9, z9 = w3.setCell ⟨q2, 2, none⟩ (.slice a3 (es.length + 1) c3) := ⟨_, rfl⟩
                        rw [← hw4] at L4 b4  ⊢
                        clear hw4
                        refine wpAnyH_done (by kernel_rfl) ?_ _
                        go_wp2_with fail
                        exact ⟨⟨k + 1, us ++ [u], ts ++ [out], _, _, _, by simp, by omega, by have t3 := hu.out; simp; omega, ⟨⟨KW.out.1.of (b4.out.block q0 FQ.out.1), KW.out.2.1.of (b4.out.block q1 FQ.out.2.1), KW.out.2.2.of (b4.out.block q1 FQ.out.2.1)⟩, L4.out, BW.out.trans (b4.out.mono FQ.out.2.2.1), HOK.out.app HUK.out HU.out.1 HU.out.2.1 HU.out.2.2 HLS.out hll⟩⟩, by simp [intOf]; omega⟩
        · have hn3 : ¬ (k : Int) < n := by omega
          go_upto_region 14 with (go_at_call 51; refine (cR _).mono ?_; rintro e W ⟨rfl, hA⟩)
          have h5 : Hid ((Bs W q0 true (.slice a vs.length c) (.slice b ss.length d) ∧ Bs W q1 false (.slice none 0 0) (.slice none 0 0) ∧ Fs W q1) ∧ Lo W (q2 + 1) q2 48 ⟨true, us.map V.raw, ts⟩ va sa es ∧ Below w.heap.size w W ∧ OKs us ts sk) := ⟨⟨h4.out.1.1.keep hA, h4.out.1.2.1.keep hA, h4.out.1.2.2.of (hA.block q1 h4.out.1.2.1.lt)⟩, h4.out.2.1.of hA, h4.out.2.2.1.trans (hA.mono h4.out.2.2.1.size), h4.out.2.2.2⟩
          clear h4 e0 e1 e2 cR hA
          have h4 := h5
          clear h5
          obtain ⟨PV, hPV⟩ : ∃ z9, z9 = us.map V.raw := ⟨_, rfl⟩
          rw [← hPV] at h4
          have HPV := hide hPV
          clear hPV
          obtain ⟨a7, c7, rfl, -, -⟩ := h4.out.2.1.ov.slice
          obtain ⟨a8, c8, rfl, -, -⟩ := h4.out.2.1.os.slice
          have e0 := h4.out.2.1.bx.c0
          have e1 := h4.out.2.1.bx.c1
          have e2 := h4.out.2.1.bx.c2
          have g0 := h4.out.1.2.1.c0
          have g1 := h4.out.1.2.1.c1
          have g2 := h4.out.1.2.1.c2
          have f0 := h4.out.1.2.2.f0
          have f1 := h4.out.1.2.2.f1
          have f2 := h4.out.1.2.2.f2
          have G1 := hide (h4.out.2.1.fin h4.out.1.2.1 (Nat.lt_succ_of_lt FQ.out.2.1) (Nat.ne_of_lt FQ.out.2.1) h4.out.2.2.1 FQ.out.2.2.2)
          have HOK := hide h4.out.2.2.2
          clear h4
          go_wp2_with fail
          have y0 := G1.out.1.c0
          have y1 := G1.out.1.c1
          have y2 := G1.out.1.c2
          clear e0 e1 e2 g0 g1 g2 f0 f1 f2
          exact bodyPost_ret (by simp [results, Try.results38, go_sem, y0, y1, y2]; try rfl) rfl ⟨_, rfl, G1.out.2.2, ⟨true, PV, ts⟩, G1.out.2.1, us, ⟨HPV.out, HOK.out.len, by have := hu.out; omega, HOK.out.ok, HOK.out.up, fun e => by cases e⟩⟩
      · have hm2 : ¬ (k : Int) < ((min vs.length ss.length : Nat) : Int) := by omega
        generalize min vs.length ss.length = M at *
        go_upto_region 14 with (go_at_call 51; refine (cR _).mono ?_; rintro e W ⟨rfl, hA⟩)
        have h5 : Hid ((Bs W q0 true (.slice a vs.length c) (.slice b ss.length d) ∧ Bs W q1 false (.slice none 0 0) (.slice none 0 0) ∧ Fs W q1) ∧ Lo W (q2 + 1) q2 48 ⟨true, us.map V.raw, ts⟩ va sa es ∧ Below w.heap.size w W ∧ OKs us ts sk) := ⟨⟨h4.out.1.1.keep hA, h4.out.1.2.1.keep hA, h4.out.1.2.2.of (hA.block q1 h4.out.1.2.1.lt)⟩, h4.out.2.1.of hA, h4.out.2.2.1.trans (hA.mono h4.out.2.2.1.size), h4.out.2.2.2⟩
        clear h4 e0 e1 e2 cR hA
        have h4 := h5
        clear h5
        obtain ⟨PV, hPV⟩ : ∃ z9, z9 = us.map V.raw := ⟨_, rfl⟩
        rw [← hPV] at h4
        have HPV := hide hPV
        clear hPV
        obtain ⟨a7, c7, rfl, -, -⟩ := h4.out.2.1.ov.slice
        obtain ⟨a8, c8, rfl, -, -⟩ := h4.out.2.1.os.slice
        have e0 := h4.out.2.1.bx.c0
        have e1 := h4.out.2.1.bx.c1
        have e2 := h4.out.2.1.bx.c2
        have g0 := h4.out.1.2.1.c0
        have g1 := h4.out.1.2.1.c1
        have g2 := h4.out.1.2.1.c2
        have f0 := h4.out.1.2.2.f0
        have f1 := h4.out.1.2.2.f1
        have f2 := h4.out.1.2.2.f2
        have G1 := hide (h4.out.2.1.fin h4.out.1.2.1 (Nat.lt_succ_of_lt FQ.out.2.1) (Nat.ne_of_lt FQ.out.2.1) h4.out.2.2.1 FQ.out.2.2.2)
        have HOK := hide h4.out.2.2.2
        clear h4
        go_wp2_with fail
        have y0 := G1.out.1.c0
        have y1 := G1.out.1.c1
        have y2 := G1.out.1.c2
        clear e0 e1 e2 g0 g1 g2 f0 f1 f2
        exact bodyPost_ret (by simp [results, Try.results38, go_sem, y0, y1, y2]; try rfl) rfl ⟨_, rfl, G1.out.2.2, ⟨true, PV, ts⟩, G1.out.2.1, us, ⟨HPV.out, HOK.out.len, by have := hu.out; omega, HOK.out.ok, HOK.out.up, fun e => by cases e⟩⟩
end Go.Proofs.Ytmhicllhjiglkaa
