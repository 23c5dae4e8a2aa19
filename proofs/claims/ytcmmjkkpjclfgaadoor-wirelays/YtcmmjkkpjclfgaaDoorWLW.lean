import Derived.Test.YtcmmjkkpjclfgaaDoorWL1
import Derived.Deep.DeepCutAuto
namespace Go.Proofs.YtcmmjkkpjclfgaaDoor
open Go.RowKit

/-- five errors of nil Readers -/
structure Errs (w w1 : World) (v1 v2 v3 v4 v5 : Value) : Prop where
  e1 : Wraps w1 [0] v1 (.iface 29 (.int .i64 1))
  e2 : Wraps w1 [0] v2 (.iface 29 (.int .i64 1))
  e3 : Wraps w1 [0] v3 (.iface 29 (.int .i64 1))
  e4 : Wraps w1 [0] v4 (.iface 29 (.int .i64 1))
  e5 : Wraps w1 [0] v5 (.iface 29 (.int .i64 1))
  fr : Fr (fun _ => False) w w1
theorem Errs.on {w w1 w2 : World} {v1 v2 v3 v4 v5 : Value} (h : Errs w w1 v1 v2 v3 v4 v5) (f : Fr (fun _ => False) w1 w2) : Errs w w2 v1 v2 v3 v4 v5 :=
  ⟨h.e1.fr f, h.e2.fr f, h.e3.fr f, h.e4.fr f, h.e5.fr f, h.fr.trans f⟩

set_option maxRecDepth 100000 in
set_option maxHeartbeats 4000000 in
theorem lays_walk (a0 : Option Addr) (c0 : Nat) (ts : List Th) (w : World) (hG : Glob w) (hrow : RowT w a0 ts) (hok : ∀ t ∈ ts, t.Ok w) (hmax : ts.length ≤ 140737488355328) :
    Calls Tryd.prog 7 #[.slice a0 ts.length c0] w fun e w' => e = .returned (.bool true) ∧ Below w.heap.size w w' := by
  have HG : Hid (Glob w ∧ RowT w a0 ts ∧ ∀ t ∈ ts, t.Ok w) := ⟨hG, hrow, hok⟩
  have hml : (ts.length : Int) ≤ 140737488355328 := by omega
  clear hG hrow hok hmax
  go_enter Tryd.func7, Tryd.ntmps7
  go_wp2_with (first
    | (go_at_call 27; refine (none_any _).mono ?_; rintro e w' ⟨rfl, rfl⟩)
    | (go_at_call 28; refine (nil_byte _).mono ?_; rintro e w' ⟨rfl, rfl⟩)
    | (go_at_call 29; refine (nil_uint _ _).mono ?_; rintro e w' ⟨rfl, rfl⟩)
    | (go_at_call 30; refine (nil_int _).mono ?_; rintro e w' ⟨rfl, rfl⟩)
    | (go_at_call 31; refine (nil_raw _ _).mono ?_; rintro e w' ⟨rfl, rfl⟩)
    | (go_at_call 32; refine (nil_sec _).mono ?_; rintro e w' ⟨rfl, rfl⟩)
    | fail)
  refine (nil_rbyte _).mono ?_
  rintro e w1 ⟨v1, rfl, h1⟩
  obtain ⟨T1, x1, rfl⟩ := h1.1.iface
  have H1 : Hid (Wraps w1 [0] (.iface T1 x1) (.iface 29 (.int .i64 1)) ∧ Fr (fun _ => False) w w1) := ⟨h1.1, ((Fr.refl _ w).alloc _).trans h1.2⟩
  clear h1
  go_wp2_with fail
  refine (nil_ruint _ _).mono ?_
  rintro e w2 ⟨v2, rfl, h2⟩
  obtain ⟨T2, x2, rfl⟩ := h2.1.iface
  have H2 : Hid (Wraps w2 [0] (.iface T1 x1) (.iface 29 (.int .i64 1)) ∧ Wraps w2 [0] (.iface T2 x2) (.iface 29 (.int .i64 1)) ∧ Fr (fun _ => False) w w2) := ⟨H1.out.1.fr h2.2, h2.1, H1.out.2.trans h2.2⟩
  clear h2 H1
  go_wp2_with fail
  refine (nil_rint _).mono ?_
  rintro e w3 ⟨v3, rfl, h3⟩
  obtain ⟨T3, x3, rfl⟩ := h3.1.iface
  have H3 : Hid (Wraps w3 [0] (.iface T1 x1) (.iface 29 (.int .i64 1)) ∧ Wraps w3 [0] (.iface T2 x2) (.iface 29 (.int .i64 1)) ∧ Wraps w3 [0] (.iface T3 x3) (.iface 29 (.int .i64 1)) ∧ Fr (fun _ => False) w w3) := ⟨H2.out.1.fr h3.2, H2.out.2.1.fr h3.2, h3.1, H2.out.2.2.trans h3.2⟩
  clear h3 H2
  go_wp2_with fail
  refine (nil_rraw _).mono ?_
  rintro e w4 ⟨v4, rfl, h4⟩
  obtain ⟨T4, x4, rfl⟩ := h4.1.iface
  have H4 : Hid (Wraps w4 [0] (.iface T1 x1) (.iface 29 (.int .i64 1)) ∧ Wraps w4 [0] (.iface T2 x2) (.iface 29 (.int .i64 1)) ∧ Wraps w4 [0] (.iface T3 x3) (.iface 29 (.int .i64 1)) ∧ Wraps w4 [0] (.iface T4 x4) (.iface 29 (.int .i64 1)) ∧ Fr (fun _ => False) w w4) := ⟨H3.out.1.fr h4.2, H3.out.2.1.fr h4.2, H3.out.2.2.1.fr h4.2, h4.1, H3.out.2.2.2.trans h4.2⟩
  clear h4 H3
  go_wp2_with fail
  refine (nil_rsec _).mono ?_
  rintro e w5 ⟨v5, rfl, h5⟩
  obtain ⟨T5, x5, rfl⟩ := h5.1.iface
  have E5 : Hid (Errs w w5 (.iface T1 x1) (.iface T2 x2) (.iface T3 x3) (.iface T4 x4) (.iface T5 x5)) := ⟨H4.out.1.fr h5.2, H4.out.2.1.fr h5.2, H4.out.2.2.1.fr h5.2, H4.out.2.2.2.1.fr h5.2, h5.1, H4.out.2.2.2.2.trans h5.2⟩
  clear h5 H4
  go_wp2_with fail
  refine (lays_any w5 (HG.out.1.keep E5.out.fr (fun h => h))).mono ?_
  rintro e w6 ⟨rfl, f6⟩
  have E6 : Hid (Errs w w6 (.iface T1 x1) (.iface T2 x2) (.iface T3 x3) (.iface T4 x4) (.iface T5 x5)) := E5.out.on (Fr.ofBelow f6)
  clear f6 E5
  go_wp2_with fail
  refine (nil_bytes _).mono ?_
  rintro e w6' ⟨rfl, hw⟩
  obtain rfl := hw
  go_wp2_with fail
  refine (kind_any [0] (.iface T1 x1) 1 w6 (HG.out.1.keep E6.out.fr (fun h => h)) E6.out.e1.err).mono ?_
  rintro e w7 ⟨rfl, f7⟩
  have E7 : Hid (Errs w w7 (.iface T1 x1) (.iface T2 x2) (.iface T3 x3) (.iface T4 x4) (.iface T5 x5)) := E6.out.on f7
  clear f7 E6
  go_wp2_with fail
  refine (kind_any [0] (.iface T2 x2) 1 w7 (HG.out.1.keep E7.out.fr (fun h => h)) E7.out.e2.err).mono ?_
  rintro e w8 ⟨rfl, f8⟩
  have E8 : Hid (Errs w w8 (.iface T1 x1) (.iface T2 x2) (.iface T3 x3) (.iface T4 x4) (.iface T5 x5)) := E7.out.on f8
  clear f8 E7
  go_wp2_with fail
  refine (kind_any [0] (.iface T3 x3) 1 w8 (HG.out.1.keep E8.out.fr (fun h => h)) E8.out.e3.err).mono ?_
  rintro e w9 ⟨rfl, f9⟩
  have E9 : Hid (Errs w w9 (.iface T1 x1) (.iface T2 x2) (.iface T3 x3) (.iface T4 x4) (.iface T5 x5)) := E8.out.on f9
  clear f9 E8
  go_wp2_with fail
  refine (kind_any [0] (.iface T4 x4) 1 w9 (HG.out.1.keep E9.out.fr (fun h => h)) E9.out.e4.err).mono ?_
  rintro e w10 ⟨rfl, f10⟩
  have E10 : Hid (Errs w w10 (.iface T1 x1) (.iface T2 x2) (.iface T3 x3) (.iface T4 x4) (.iface T5 x5)) := E9.out.on f10
  clear f10 E9
  go_wp2_with fail
  refine (kind_any [0] (.iface T5 x5) 1 w10 (HG.out.1.keep E10.out.fr (fun h => h)) E10.out.e5.err).mono ?_
  rintro e w11 ⟨rfl, f11⟩
  have E11 : Hid (Errs w w11 (.iface T1 x1) (.iface T2 x2) (.iface T3 x3) (.iface T4 x4) (.iface T5 x5)) := E10.out.on f11
  clear f11 E10
  go_wp2_with fail
  refine (nil_end _).mono ?_
  rintro e w12 ⟨v12, rfl, h12⟩
  obtain ⟨T12, x12, rfl⟩ := h12.1.iface
  have H12 : Hid (Wraps w12 [0] (.iface T12 x12) (.iface 29 (.int .i64 1)) ∧ Fr (fun _ => False) w w12) := ⟨h12.1, E11.out.fr.trans h12.2⟩
  clear h12 E11
  go_wp2_with fail
  refine (kind_any [0] (.iface T12 x12) 1 w12 (HG.out.1.keep H12.out.2 (fun h => h)) H12.out.1.err).mono ?_
  rintro e w13 ⟨rfl, f13⟩
  have H13 : Hid (Fr (fun _ => False) w w13) := H12.out.2.trans f13
  clear f13 H12
  go_wp2_with (first
    | (go_at_call 41; refine (nil_left _).mono ?_; rintro e w' ⟨rfl, rfl⟩)
    | (go_at_call 42; refine (nil_at _).mono ?_; rintro e w' ⟨rfl, rfl⟩)
    | (go_at_call 43; refine (nil_copy _).mono ?_; rintro e w' ⟨rfl, rfl⟩)
    | fail)
  refine (new_any w13).mono ?_
  rintro e w14 ⟨rfl, h14⟩
  have S0 : Hid (WantSt w w14 w13.heap.size none [] [] none 0) := by
    have f : Fr (fun _ => False) w13 w14 := by rw [h14]; exact (Fr.refl _ _).alloc _
    refine ⟨by rw [h14]; exact wtr_new w13, World.ownsRow_nil _ _ _ _, (H13.out.trans f).below (Nat.le_refl _) (fun _ h => h.elim), H13.out.size, (fun k h => by cases h), (fun k h => by cases h)⟩
  clear h14 H13
  generalize w13.heap.size = N at *
  go_wp2_with fail
  go_loopw [16, 17] (fun sl ix wr => ∃ (m : Nat) (a : Option Addr) (c : Nat) (r : Option Nat), ix = .int .i64 m ∧ m ≤ ts.length ∧ m ≤ 40 ∧ sl = .slice a (catT ts m).length c ∧ Hid (WantSt w wr N r (catT ts m) (catT ts m) a c)) (fun _ i _ => 40 - (intOf i).toNat)
  case atStart => exact ⟨0, none, 0, none, rfl, Nat.zero_le _, Nat.zero_le _, rfl, S0⟩
  case round =>
    obtain ⟨m, a, c, r, rfl, hm, hm40, rfl, hS⟩ := hrel
    clear S0
    have hcl := catT_len ts m
    have HCL : Hid ((catT ts m).length ≤ 2000) := by unfold Hid; omega
    clear hcl
    by_cases hlt : m < ts.length ∧ m < 40
    · have m1 : (m : Int) < ts.length := by omega
      have m2 : (m : Int) < 40 := by omega
      have m3 : (0 : Int) ≤ m := by omega
      obtain ⟨t, htm⟩ : ∃ t, ts[m]? = some t := ⟨ts[m]'hlt.1, by simp [hlt.1]⟩
      have hmem : t ∈ ts := List.mem_of_getElem? htm
      obtain ⟨b, o, rfl, d0, d1, d2⟩ := (HG.out.2.1.below hS.out.be) m t htm
      have C := lay_any t N r (catT ts m) wr ((HG.out.2.2 t hmem).below hS.out.be) hS.out.wt (by have := HCL.out; omega)
      have HN : Hid (catT ts (m + 1) = catT ts m ++ t.tb ∧ t.tb.length ≤ 50) := ⟨catT_succ htm, t.tb_len⟩
      unfold Th.val at C
      obtain ⟨i0, hi, hz0, hz1, hz2⟩ := info_parts Tryd.info5
      clear htm hmem
      generalize catT ts m = cs at *
      generalize t.tb = tb at *
      go_wp2_with fail
      refine C.mono ?_
      rintro e w1 ⟨a1, c1, rfl, p1, p2, p3⟩
      obtain ⟨r1, hS1⟩ := hS.out.lay p1
      have H1 : Hid (WantSt w w1 N r1 (cs ++ tb) cs a c) := hS1
      have hown := hS1.own
      have HP : Hid (Row w1 a1 (B8 tb) ∧ (a1 = none → c1 = 0)) := ⟨p2, p3⟩
      clear C p1 p2 p3 hS1 hS
      go_wp2_with (at_builtin; refine wpList_append_row _ rfl (.tmp 126) (.tmp 132) 55 rfl 5 i0 (.int .u8 0) 1 Tryd.underlying55 hi hz0 hz1 hz2 rfl a cs.length c (B8 cs) rfl hown a1 tb.length c1 (B8 tb) rfl HP.out.2 (B8_length tb) HP.out.1 (b8_one tb) ?c3 ?c4 ?_)
      case c3 => unfold maxLen; have := HCL.out; have := HN.out.2; omega
      case c4 => have := HCL.out; have := HN.out.2; omega
      intro a2 c2 w2 q1 q2 q3
      have H2 : Hid (WantSt w w2 N r1 (cs ++ tb) (cs ++ tb) a2 c2) := H1.out.app (by simp) (by rw [B8_append]) q1 q2 q3
      have el : cs.length + tb.length = (cs ++ tb).length := by simp
      rw [el]
      clear q1 q2 q3 el H1 hown hi d0 d1 d2
      go_wp2
      go_roundw
      case rel =>
        refine ⟨m + 1, a2, c2, r1, by go_num, by omega, by omega, ?_, ?_⟩
        · rw [HN.out.1]
        · rw [HN.out.1]; exact H2
      case measure => simp [intOf]; omega
    · have HM : Hid (m = min ts.length 40) := by unfold Hid; omega
      obtain ⟨bs, hbs⟩ : ∃ bs, bs = catT ts m := ⟨_, rfl⟩
      have HBS : Hid (bs = catT ts m) := hbs
      rw [← hbs] at HCL hS ⊢
      clear hbs
      have B1 : Calls Tryd.prog 39 #[.pointer (some ⟨N, 0, none⟩)] wr.drew fun e w' => e = .returned (.slice (some ⟨wr.heap.size, 0, none⟩) bs.length bs.length) ∧ w' = (wr.alloc (rowObj bs)).drew :=
        bytes_any N r bs wr.drew (hS.out.wt.keep (Fr.refl (fun _ => False) wr).drew (fun h => h) (fun _ _ h => h)) (by have := HCL.out; omega)
      have rw0 := own_rowb hS.out.own
      have s1 : (convert 55 9 (.slice (some ⟨wr.heap.size, 0, none⟩) bs.length bs.length)).run Tryd.prog ((wr.alloc (rowObj bs)).drew) = .ok (.string ⟨bs.toArray⟩) ((wr.alloc (rowObj bs)).drew) :=
        row_conv (heap_alloc_new wr _)
      have s2 : (convert 55 9 (.slice a bs.length c)).run Tryd.prog wr.drew = .ok (.string ⟨bs.toArray⟩) wr.drew := conv_str bs a c wr.drew (rw0.1.keep (Fr.refl (fun _ => False) wr).drew (fun _ _ h => h)) rw0.2
      have s3 : (convert 55 9 (.slice a bs.length c)).run Tryd.prog ((wr.alloc (rowObj bs)).drew) = .ok (.string ⟨bs.toArray⟩) ((wr.alloc (rowObj bs)).drew) := conv_str bs a c _ (rw0.1.keep (((Fr.refl (fun _ => False) wr).alloc _).drew) (fun _ _ h => h)) rw0.2
      have HW : Hid (Row ((wr.alloc (rowObj bs)).drew) a (B8 bs) ∧ (a = none → c = 0) ∧ Below w.heap.size w ((wr.alloc (rowObj bs)).drew)) :=
        ⟨rw0.1.keep (((Fr.refl (fun _ => False) wr).alloc _).drew) (fun _ _ h => h), rw0.2, hS.out.be.trans ((((Fr.refl (fun _ => False) wr).alloc _).drew).below hS.out.be.size (fun _ h => h.elim))⟩
      clear rw0 hS
      by_cases hl : m < ts.length
      all_goals
        first
          | (have m1 : (m : Int) < ts.length := by omega
             have m2 : ¬ (m : Int) < 40 := by omega
             go_upto_if 139 with fail)
          | (have m1 : ¬ (m : Int) < ts.length := by omega
             go_upto_if 139 with fail)
        go_cut [139] (fun v wx => wx = (wr.alloc (rowObj bs)).drew ∧ v = .bool false)
        case first =>
          go_region_with (go_at_call 39; refine B1.mono ?_; rintro e w' ⟨rfl, rfl⟩)
          all_goals
            go_wp2
            go_meet
            case rel => exact ⟨rfl, rfl⟩
        case rest =>
          obtain ⟨rfl, rfl⟩ := hcut
          clear B1 s1 s2 s3
          generalize (wr.alloc (rowObj bs)).drew = W0 at *
          go_wp2_with fail
          refine (read_any a c bs W0 HW.out.1.bs (by have := HCL.out; omega)).mono ?_
          rintro e w1 ⟨rfl, h1⟩
          have R1 : Hid (Rdr w1 (W0.heap.size + 1) W0.heap.size bs (catT ts 0).length bs.length ∧ Below w.heap.size w w1 ∧ w.heap.size ≤ W0.heap.size) := by
            rw [h1]
            exact ⟨rdr_new bs W0 (by have := HCL.out; omega), HW.out.2.2.trans ((((Fr.refl (fun _ => False) W0).alloc _).alloc _).below HW.out.2.2.size (fun _ h => h.elim)), HW.out.2.2.size⟩
          clear h1 HW
          obtain ⟨rb, hrb⟩ : ∃ rb, rb = W0.heap.size := ⟨_, rfl⟩
          rw [← hrb] at R1 ⊢
          clear hrb
          go_wp2_with fail
          go_loopw [19, 20] (fun ix cv wr2 => ∃ m2 : Nat, ix = .int .i64 m2 ∧ m2 ≤ m ∧ Hid (Rdr wr2 (rb + 1) rb bs (catT ts m2).length bs.length ∧ Below w.heap.size w wr2 ∧ w.heap.size ≤ rb)) (fun i _ _ => 40 - (intOf i).toNat)
          case atStart => exact ⟨0, rfl, Nat.zero_le _, R1⟩
          case round =>
            obtain ⟨m2, rfl, hm2, hR⟩ := hrel
            clear R1
            by_cases hlt2 : m2 < m
            · have n1 : (m2 : Int) < ts.length := by have := HM.out; omega
              have n2 : (m2 : Int) < 40 := by have := HM.out; omega
              have n3 : (0 : Int) ≤ m2 := by omega
              obtain ⟨t, htm⟩ : ∃ t, ts[m2]? = some t := ⟨ts[m2]'(by omega), by simp⟩
              have hmem : t ∈ ts := List.mem_of_getElem? htm
              obtain ⟨rest, hleft⟩ := catT_left htm hlt2
              have HT : Hid (ts[m2]? = some t ∧ t.Ok w ∧ leftOf bs (catT ts m2).length bs.length = t.tb ++ rest ∧ (catT ts (m2 + 1)).length = (catT ts m2).length + t.tb.length) := by
                refine ⟨htm, HG.out.2.2 t hmem, ?_, by rw [catT_succ htm]; simp⟩
                rw [HBS.out]; exact hleft
              obtain ⟨b, o, rfl, -⟩ := HG.out.2.1 m2 t htm
              have D : Hid (∀ W, Below w.heap.size w W → W.cell? ⟨b, o + m2 * 3, none⟩ = some (.int .i64 t.k) ∧ W.cell? ⟨b, o + m2 * 3 + 1, none⟩ = some (.int .u64 (t.n : Int)) ∧ W.cell? ⟨b, o + m2 * 3 + 2, none⟩ = some (.slice t.a t.len t.cap)) := fun W f => by
                obtain ⟨b', o', e, d⟩ := (HG.out.2.1.below f) m2 t htm
                cases e
                exact d
              clear htm hmem hleft
              obtain ⟨p, hp⟩ : ∃ p, p = (catT ts m2).length := ⟨_, rfl⟩
              have HPP : Hid (p = (catT ts m2).length) := hp
              rw [← hp] at hR HT
              clear hp
              go_wp2_with fail
              refine (rcopy_any (rb + 1) rb bs _ _ wr hR.out.1).mono ?_
              rintro e wa ⟨rfl, ja, ha⟩
              have HA : Hid (Rdr wa wr.heap.size rb bs p bs.length ∧ Rdr wa (rb + 1) rb bs p bs.length ∧ Below w.heap.size w wa ∧ w.heap.size ≤ wr.heap.size ∧ rb + 1 < wr.heap.size ∧ w.heap.size ≤ rb) := by
                obtain ⟨c1, c2⟩ := rdr_copy (j := ja) hR.out.1
                rw [ha]
                exact ⟨c1, hR.out.1.keep c2 (fun h => h) (fun h => h), hR.out.2.1.trans (c2.below hR.out.2.1.size (fun _ h => h.elim)), hR.out.2.1.size, heap_lt hR.out.1.obj, hR.out.2.2⟩
              clear ha hR
              generalize wr.heap.size = gc at *
              obtain ⟨d0, d1, d2⟩ := D.out wa HA.out.2.2.1
              have C := take_any t gc rb bs p bs.length rest wa (fun w' f => HT.out.2.1.below (HA.out.2.2.1.trans (f.below HA.out.2.2.1.size (fun k hk => by subst hk; exact HA.out.2.2.2.1)))) HA.out.1 HT.out.2.2.1
              unfold Th.val at C
              go_wp2_with fail
              refine C.mono ?_
              rintro e wb ⟨rfl, hb⟩
              have HBb : Hid (Rdr wb gc rb bs (p + t.tb.length) bs.length ∧ Rdr wb (rb + 1) rb bs p bs.length ∧ Below w.heap.size w wb ∧ rb + 1 < gc ∧ w.heap.size ≤ rb) := by
                have h5 := HA.out.2.2.2.2.1
                exact ⟨hb.1, HA.out.2.1.keep hb.2 (by omega) (by omega), HA.out.2.2.1.trans (hb.2.below HA.out.2.2.1.size (fun k hk => by subst hk; exact HA.out.2.2.2.1)), h5, HA.out.2.2.2.2.2⟩
              clear C hb d0 d1 d2 HA
              obtain ⟨d0, d1, d2⟩ := D.out wb HBb.out.2.2.1
              have C := take_any t (rb + 1) rb bs p bs.length rest wb (fun w' f => HT.out.2.1.below (HBb.out.2.2.1.trans (f.below HBb.out.2.2.1.size (fun k hk => by subst hk; have := HBb.out.2.2.2.2; omega)))) HBb.out.2.1 HT.out.2.2.1
              unfold Th.val at C
              go_wp2_with fail
              refine C.mono ?_
              rintro e wc ⟨rfl, hc⟩
              have HC : Hid (Rdr wc gc rb bs (p + t.tb.length) bs.length ∧ Rdr wc (rb + 1) rb bs (p + t.tb.length) bs.length ∧ Below w.heap.size w wc ∧ w.heap.size ≤ rb) := by
                have h5 := HBb.out.2.2.2
                exact ⟨HBb.out.1.keep hc.2 (by omega) (by omega), hc.1, HBb.out.2.2.1.trans (hc.2.below HBb.out.2.2.1.size (fun k hk => by subst hk; omega)), h5.2⟩
              clear C hc d0 d1 d2 HBb
              obtain ⟨p', hp'⟩ : ∃ p', p' = p + t.tb.length := ⟨_, rfl⟩
              rw [← hp'] at HC
              have HP' : Hid (p' = (catT ts (m2 + 1)).length) := by rw [hp']; exact HT.out.2.2.2.symm
              clear hp'
              go_wp2_with fail
              refine (rat_any gc rb bs p' bs.length wc HC.out.1).mono ?_
              rintro e w' ⟨rfl, hw⟩
              obtain rfl := hw
              go_wp2_with fail
              refine (rat_any (rb + 1) rb bs p' bs.length wc HC.out.2.1).mono ?_
              rintro e w' ⟨rfl, hw⟩
              obtain rfl := hw
              go_wp2
              go_roundw
              case rel =>
                refine ⟨m2 + 1, by go_num, by omega, ?_⟩
                rw [← HP'.out]
                exact HC.out.2
              case measure => simp [intOf]; omega
            · have hmm : m2 = m := by omega
              have HE : Hid ((catT ts m2).length = bs.length) := by rw [HBS.out, hmm]; rfl
              rw [HE.out] at hR
              have n2 : ¬ ((m2 : Int) < ts.length ∧ (m2 : Int) < 40) := by have := HM.out; omega
              have L := left_any (rb + 1) rb bs bs.length bs.length
              rw [Nat.sub_self] at L
              by_cases hl2 : (m2 : Int) < ts.length
              all_goals
                first
                  | (exfalso; omega)
                  | (first
                      | (have n3 : ¬ (m2 : Int) < 40 := by omega
                         go_wp2_with fail)
                      | go_wp2_with fail
                     refine (end_ok (rb + 1) rb bs bs.length _ hR.out.1).mono ?_
                     rintro e w2 ⟨rfl, j2, rfl⟩
                     go_wp2_with fail
                     refine (L _ (hR.out.1.drewN j2)).mono ?_
                     rintro e w3 ⟨rfl, j3, rfl⟩
                     go_wp2_with fail
                     refine (rat_any (rb + 1) rb bs bs.length bs.length _ (hR.out.1.drewN (j2 + j3))).mono ?_
                     rintro e w4 ⟨rfl, hw⟩
                     obtain rfl := hw
                     go_wp2
                     go_ret
                     exact ⟨rfl, hR.out.2.1.trans (below_drewN' _ _ _)⟩)
end Go.Proofs.YtcmmjkkpjclfgaaDoor
