import Derived.Test.YtcmmjkkpjclfgaaDoorWT6
import Derived.Test.YtcmmjkkpjclfgaaDoorLays
namespace Go.Proofs.YtcmmjkkpjclfgaaDoor
open Go.RowKit

set_option maxRecDepth 100000 in
set_option maxHeartbeats 8000000 in
theorem takes_walk (a0 : Option Addr) (len cap : Nat) (ys : List UInt8) (a1 : Option Addr) (c1 : Nat) (qs : List Ak) (w : World) (hG : Glob w) (hin : Row w a0 (B8 ys)) (hcap : ys.length = cap) (hlen : len ≤ cap) (hnil : a0 = none → cap = 0) (hmax : cap ≤ 140737488355328) (hq : RowA w a1 qs) (hqm : qs.length ≤ 140737488355328) :
    Calls Tryd.prog 8 #[.slice a0 len cap, .slice a1 qs.length c1] w fun e w' => e = .returned (.bool true) ∧ Below w.heap.size w w' := by
  obtain ⟨al, hal⟩ : ∃ al, al = ys.take (min len 200) := ⟨_, rfl⟩
  have HA : Hid (al.length = min len 200 ∧ Row w a0 (B8 al) ∧ al.length ≤ 200 ∧ (a0 = none → cap = 0) ∧ al.length ≤ cap ∧ cap ≤ 140737488355328) := by
    subst hal; exact ⟨by simp; omega, take_row2 hin _, by simp; omega, hnil, by simp; omega, hmax⟩
  have HG : Hid (Glob w ∧ RowA w a1 qs) := ⟨hG, hq⟩
  have hql : (qs.length : Int) ≤ 140737488355328 := by omega
  have b1 : (len : Int) ≤ cap := by omega
  have b2 : (cap : Int) ≤ 140737488355328 := by omega
  clear hG hin hcap hnil hmax hq hal hqm
  go_enter Tryd.func8, Tryd.ntmps8
  go_upto_region 1 with fail
  go_cut [0] (fun v wx => w = wx ∧ v = .slice a0 al.length cap)
  case first => as_aux_lemma =>
    by_cases h2 : len ≤ 200
    · have HE : Hid (al.length = len) := by have := HA.out.1; unfold Hid; omega
      have h2' : ¬ (200 : Int) < len := by omega
      rcases a0 with _ | x
      · have hc := HA.out.2.2.2.1 rfl
        subst hc
        obtain rfl : len = 0 := by omega
        go_wp2
        go_meet
        case rel => exact ⟨rfl, by rw [HE.out]⟩
      · go_wp2
        go_meet
        case rel => exact ⟨rfl, by rw [HE.out]⟩
    · have HE : Hid (al.length = 200) := by have := HA.out.1; unfold Hid; omega
      have h2' : (200 : Int) < len := by omega
      have h2c : (200 : Int) ≤ cap := by omega
      rcases a0 with _ | x
      · have hc := HA.out.2.2.2.1 rfl
        omega
      · go_wp2
        go_meet
        case rel => exact ⟨rfl, by rw [HE.out]⟩
  case rest =>
    obtain ⟨rfl, rfl⟩ := hcut
    clear b1 b2
    go_wp2_with fail
    refine (read_any a0 cap al w HA.out.2.1.bs (by have := HA.out.2.2.1; omega)).mono ?_
    rintro e w1 ⟨rfl, h1⟩
    have SN := fun w4 => stk_new (w4 := w4) HA.out.2.1 HA.out.2.2.1 HA.out.2.2.2 h1 rfl rfl
    have s1 : w1.heap.size = w.heap.size + 2 := by rw [h1]; simp
    clear h1
    go_wp2_with fail
    have S0 : Hid (Stk w (((w1.alloc (.cells #[.pointer (some ⟨w.heap.size + 1, 0, none⟩)] 47)).alloc (.cells #[.slice a0 al.length cap, .int .i64 0] 81)).alloc (.cells #[.pointer (some ⟨w.heap.size + 3, 0, none⟩)] 79)) w.heap.size al a0 cap (some ⟨w.heap.size + 2, 0, none⟩) (some ⟨w.heap.size + 4, 0, none⟩) 1 1 [⟨w.heap.size + 1, w.heap.size + 3, 0, 0, al.length⟩]) := SN _ rfl
    clear SN
    go_loopw [5, 6, 7] (fun xv yv ix wr => ∃ (m : Nat) (L0 : List Lv) (t : Lv) (xa ya : Option Addr) (xc yc : Nat), ix = .int .i64 m ∧ m ≤ qs.length ∧ m ≤ 50 ∧ L0.length ≤ m ∧ xv = .slice xa (L0.length + 1) xc ∧ yv = .slice ya (L0.length + 1) yc ∧ Hid (Ev w wr w.heap.size al a0 cap xa ya xc yc (L0 ++ [t]))) (fun _ _ i _ => 50 - (intOf i).toNat)
    case atStart => exact ⟨0, [], ⟨w.heap.size + 1, w.heap.size + 3, 0, 0, al.length⟩, _, _, 1, 1, rfl, Nat.zero_le _, Nat.zero_le _, Nat.zero_le _, by first | rfl | simp [s1], by first | rfl | simp [s1], S0.out, by simp⟩
    case round => as_aux_lemma =>
      obtain ⟨m, L0, t, xa, ya, xc, yc, rfl, hm, hm50, hL, rfl, rfl, hS⟩ := hrel
      clear S0 s1
      by_cases hlt : m < qs.length ∧ m < 50
      · have m1 : (m : Int) < qs.length := by omega
        have m2 : (m : Int) < 50 := by omega
        have m3 : (0 : Int) ≤ m := by omega
        obtain ⟨q, hqm⟩ : ∃ q, qs[m]? = some q := ⟨qs[m]'hlt.1, by simp [hlt.1]⟩
        obtain ⟨hq64, b, o, rfl, d0, d1⟩ := (HG.out.2.below hS.out.1.lv.be) m q hqm
        have HQ : Hid (q.n < 18446744073709551616) := hq64
        have HS0 : Hid (Ev w wr w.heap.size al a0 cap xa ya xc yc (L0 ++ [t])) := hS
        have hLl : (L0.length : Int) ≤ 50 := by omega
        have hLz : (0 : Int) ≤ L0.length := by omega
        have hLn : L0.length ≤ m := hL
        clear hqm hq64 hS
        go_upto_region 7 with fail
        go_cut [8] (fun v wx => ∃ A, v = .pointer (some ⟨A, 0, none⟩) ∧ Hid (wx.cell? ⟨A, 0, none⟩ = some (.int .i64 q.k) ∧ wx.cell? ⟨A, 1, none⟩ = some (.int .u64 (q.n : Int)) ∧ Fr (fun _ => False) wr wx ∧ wr.heap.size ≤ A))
        case first => as_aux_lemma =>
          have HC : Hid ((wr.alloc (.cells #[.int .i64 q.k, .int .u64 (q.n : Int)] 84)).cell? ⟨wr.heap.size, 0, none⟩ = some (.int .i64 q.k) ∧ (wr.alloc (.cells #[.int .i64 q.k, .int .u64 (q.n : Int)] 84)).cell? ⟨wr.heap.size, 1, none⟩ = some (.int .u64 (q.n : Int))) := ask_new wr _ _ 84
          go_wp2
          go_meet
          case rel => exact ⟨wr.heap.size, rfl, HC.out.1, HC.out.2, (Fr.refl _ _).alloc _, Nat.le_refl _⟩
        case rest =>
        obtain ⟨A, rfl, hA⟩ := hcut
        have hS : Hid (Ev w wc w.heap.size al a0 cap xa ya xc yc (L0 ++ [t])) := HS0.out.quiet hA.out.2.2.1
        have HAne : Hid (A ≠ t.g ∧ A ≠ t.h) := by
          have h1 := heap_lt HS0.out.1.rd'.obj
          have h2 := heap_lt HS0.out.1.rf'.obj
          have h3 := hA.out.2.2.2
          exact ⟨by omega, by omega⟩
        have d0 := hA.out.1
        have d1 := hA.out.2.1
        clear HS0
        obtain ⟨kx, ky, rfl, rfl, t0, t1⟩ := hS.out.1.top
        have u0 := hS.out.1.rf'.c0
        have u1 := hS.out.1.rf'.c1
        have HEv : Hid (t.r = t.p) := hS.out.2 t mem_top
        rw [HEv.out] at u1
        unfold Lv.gp at t0
        unfold Lv.hp at t1
        go_wp2
        go_quiet (fail)
        go_upto_block 2 with fail
        go_cut [5, 6, 12, 13] (fun xv yv ev fv wx => ∃ (L1 : List Lv) (t1 : Lv) (xa ya : Option Addr) (xc yc : Nat) (f : Nat), L1.length ≤ m + 1 ∧ xv = .slice xa (L1.length + 1) xc ∧ yv = .slice ya (L1.length + 1) yc ∧ fv = .int .i64 (f : Int) ∧
          Hid (Ev w wx w.heap.size al a0 cap xa ya xc yc (L1 ++ [t1])) ∧ (f = 0 ∧ ev = .nilIface ∨ f ≠ 0 ∧ Hid (Wraps wx [(t.p : Int)] ev (.iface 29 (.int .i64 (f : Int))))))
        case first =>
          have T0 : Hid (Ev w (wc.drewN nq) w.heap.size al a0 cap (some ⟨kx, 0, none⟩) (some ⟨ky, 0, none⟩) xc yc (L0 ++ [t])) := hS.out.quiet (fr_drewN _ _)
          have D1 : Hid ((wc.drewN nq).cell? ⟨A, 1, none⟩ = some (.int .u64 (q.n : Int))) := d1
          have hLw : L0.length ≤ m := hLn
          clear hS hA t0 t1
          by_cases hk0 : q.k = 0
          · have e0 : (q.k == 0) = true := by simpa using hk0
            clear hk0
            as_aux_lemma =>
              by_cases hpq : t.p < t.q
              · obtain ⟨ch, hch⟩ : ∃ ch, al[t.p]? = some ch := ⟨al[t.p]'(by have := T0.out.1.rd'.qb; omega), by simp⟩
                have C := rbyte_ok t.g w.heap.size al t.p t.q ch _ T0.out.1.rd' hpq hch
                have HP : Hid (t.p < t.q ∧ al[t.p]? = some ch ∧ t.q ≤ al.length) := ⟨hpq, hch, T0.out.1.rd'.qb⟩
                clear hpq hch
                go_wp2_with fail
                refine C.mono ?_
                rintro e w5 ⟨rfl, r5, f5⟩
                have C2 := refb_ok t.h a0 cap (al.take t.q) t.r ch w5 (T0.out.1.rfG f5 r5).1 (T0.out.1.rfG f5 r5).2 (by rw [HEv.out, List.length_take]; have := HP.out; omega) (by rw [HEv.out, List.getElem?_take, if_pos HP.out.1]; exact HP.out.2.1)
                have H5 : Hid (Fr (fun k => k = t.g) (wc.drewN nq) w5 ∧ Rdr w5 t.g w.heap.size al (t.p + 1) t.q) := ⟨f5, r5⟩
                clear C r5 f5 u0 u1 d0 d1
                go_wp2_with fail
                refine C2.mono ?_
                rintro e w6 ⟨rfl, r6, f6⟩
                have H6 : Hid (Ev w w6 w.heap.size al a0 cap (some ⟨kx, 0, none⟩) (some ⟨ky, 0, none⟩) xc yc (L0 ++ [{ t with p := t.p + 1, r := t.r + 1 }])) := T0.out.both H5.out.1 H5.out.2 f6 r6 (by rw [HEv.out])
                clear C2 r6 f6 H5
                go_wp2
                go_meet
                case rel => exact ⟨L0, _, _, _, xc, yc, 0, by omega, rfl, rfl, rfl, H6, .inl ⟨rfl, rfl⟩⟩
              · have R := T0.out.1.rd'
                obtain rfl' : t.q = t.p := by have := R.pq; omega
                have HP : Hid (t.q = t.p ∧ t.q ≤ al.length) := ⟨rfl', R.qb⟩
                rw [rfl'] at R
                have C := rbyte_short t.g w.heap.size al t.p _ R
                clear hpq R rfl'
                go_wp2_with fail
                refine C.mono ?_
                rintro e w5 ⟨v, rfl, wv, f5⟩
                have R2 := (T0.out.1.rfQ f5).1
                have hr : t.r = (al.take t.q).length := by rw [List.length_take, HEv.out]; have := HP.out; omega
                rw [hr] at R2
                have C2 := refb_short t.h a0 cap (al.take t.q) w5 R2
                have H5 : Hid (Fr (fun _ => False) (wc.drewN nq) w5 ∧ Wraps w5 [(t.p : Int)] v (.iface 29 (.int .i64 2))) := ⟨f5, wv⟩
                clear C f5 wv u0 u1 d0 d1 R2 hr
                go_wp2_with fail
                refine C2.mono ?_
                rintro e w6 ⟨rfl, j, rfl⟩
                clear C2
                have H6 : Hid (Ev w (w5.drewN j) w.heap.size al a0 cap (some ⟨kx, 0, none⟩) (some ⟨ky, 0, none⟩) xc yc (L0 ++ [t]) ∧ Wraps (w5.drewN j) [(t.p : Int)] v (.iface 29 (.int .i64 2))) := ⟨T0.out.quiet (H5.out.1.trans (fr_drewN _ _)), H5.out.2.fr (fr_drewN _ _)⟩
                clear H5
                go_wp2
                go_meet
                case rel => exact ⟨L0, _, _, _, xc, yc, 2, by omega, rfl, rfl, rfl, H6.out.1, .inr ⟨by decide, H6.out.2⟩⟩
          have e0 : (q.k == 0) = false := by simpa using hk0
          clear hk0
          by_cases hk1 : q.k = 1
          · have e1 : (q.k == 1) = true := by simpa using hk1
            clear hk1
            as_aux_lemma =>
              obtain ⟨n, s, k, hn⟩ : ∃ n s k, numGo (leftOf al t.p t.q) 0 0 = (n, s, k) := ⟨_, _, _, rfl⟩
              have hn2 : numGo ((al.take t.q).drop t.r) 0 0 = (n, s, k) := by rw [HEv.out]; exact hn
              have HN : Hid (numGo ((al.take t.q).drop t.r) 0 0 = (n, s, k)) := hn2
              clear hn2
              by_cases hk : k = 0
              · subst hk
                by_cases hm : (n : Int) ≤ (q.n : Int)
                · have C := ruint_ok t.g w.heap.size al t.p t.q (q.n : Int) n s _ T0.out.1.rd' hn hm
                  have HM : Hid (rtk (q.n : Int) n s 0 = (n, s, 0)) := rtk_ok (by omega)
                  clear hn hm
                  go_wp2_with fail
                  refine C.mono ?_
                  rintro e w5 ⟨rfl, r5, f5⟩
                  have d1 := f5.cell D1.out HAne.out.1
                  have C2 := refuint_any t.h a0 cap (al.take t.q) t.r (q.n : Int) n s 0 w5 (T0.out.1.rfG f5 r5).1 (T0.out.1.rfG f5 r5).2 HN.out
                  rw [HM.out] at C2
                  have H5 : Hid (Fr (fun k => k = t.g) (wc.drewN nq) w5 ∧ Rdr w5 t.g w.heap.size al (t.p + s) t.q) := ⟨f5, r5⟩
                  clear C r5 f5 u0 u1 d0
                  go_wp2_with fail
                  refine C2.mono ?_
                  rintro e w6 ⟨rfl, r6, f6⟩
                  have H6 : Hid (Ev w w6 w.heap.size al a0 cap (some ⟨kx, 0, none⟩) (some ⟨ky, 0, none⟩) xc yc (L0 ++ [{ t with p := t.p + s, r := t.r + s }])) := T0.out.both H5.out.1 H5.out.2 f6 r6 (by rw [HEv.out])
                  clear C2 r6 f6 H5 d1
                  go_wp2
                  go_meet
                  case rel => exact ⟨L0, _, _, _, xc, yc, 0, by omega, rfl, rfl, rfl, H6, .inl ⟨rfl, rfl⟩⟩
                · have C := ruint_high t.g w.heap.size al t.p t.q (q.n : Int) n s _ T0.out.1.rd' hn (by omega)
                  have HM : Hid (rtk (q.n : Int) n s 0 = (0, 0, 4)) := rtk_high (by omega)
                  clear hn hm
                  go_wp2_with fail
                  refine C.mono ?_
                  rintro e w5 ⟨v, rfl, wv, f5⟩
                  have d1 := f5.cell D1.out (fun h => h)
                  have C2 := refuint_any t.h a0 cap (al.take t.q) t.r (q.n : Int) n s 0 w5 (T0.out.1.rfQ f5).1 (T0.out.1.rfQ f5).2 HN.out
                  rw [HM.out] at C2
                  have H5 : Hid (Fr (fun _ => False) (wc.drewN nq) w5 ∧ Wraps w5 [(t.p : Int)] v (.iface 29 (.int .i64 4)) ∧ RefR w5 t.h a0 cap (al.take t.q) t.r) := ⟨f5, wv, (T0.out.1.rfQ f5).1⟩
                  clear C f5 wv u0 u1 d0
                  go_wp2_with fail
                  refine C2.mono ?_
                  rintro e w6 ⟨rfl, r6, f6⟩
                  have H6 : Hid (Ev w w6 w.heap.size al a0 cap (some ⟨kx, 0, none⟩) (some ⟨ky, 0, none⟩) xc yc (L0 ++ [t]) ∧ Wraps w6 [(t.p : Int)] v (.iface 29 (.int .i64 4))) := ⟨T0.out.none H5.out.1 f6 r6 rfl, H5.out.2.1.frH H5.out.2.2 f6⟩
                  clear C2 r6 f6 H5 d1
                  go_wp2
                  go_meet
                  case rel => exact ⟨L0, _, _, _, xc, yc, 4, by omega, rfl, rfl, rfl, H6.out.1, .inr ⟨by decide, H6.out.2⟩⟩
              · have C := ruint_bad t.g w.heap.size al t.p t.q (q.n : Int) n s k _ T0.out.1.rd' hn hk
                have HM : Hid (rtk (q.n : Int) n s k = (0, 0, k) ∧ k ≠ 0) := ⟨rtk_bad hk, hk⟩
                clear hn hk
                go_wp2_with fail
                refine C.mono ?_
                rintro e w5 ⟨v, rfl, wv, f5⟩
                have d1 := f5.cell D1.out (fun h => h)
                have C2 := refuint_any t.h a0 cap (al.take t.q) t.r (q.n : Int) n s k w5 (T0.out.1.rfQ f5).1 (T0.out.1.rfQ f5).2 HN.out
                rw [HM.out.1] at C2
                have H5 : Hid (Fr (fun _ => False) (wc.drewN nq) w5 ∧ Wraps w5 [(t.p : Int)] v (.iface 29 (.int .i64 (k : Int))) ∧ RefR w5 t.h a0 cap (al.take t.q) t.r) := ⟨f5, wv, (T0.out.1.rfQ f5).1⟩
                clear C f5 wv u0 u1 d0
                go_wp2_with fail
                refine C2.mono ?_
                rintro e w6 ⟨rfl, r6, f6⟩
                have H6 : Hid (Ev w w6 w.heap.size al a0 cap (some ⟨kx, 0, none⟩) (some ⟨ky, 0, none⟩) xc yc (L0 ++ [t]) ∧ Wraps w6 [(t.p : Int)] v (.iface 29 (.int .i64 (k : Int)))) := ⟨T0.out.none H5.out.1 f6 r6 rfl, H5.out.2.1.frH H5.out.2.2 f6⟩
                clear C2 r6 f6 H5 d1
                go_wp2
                go_meet
                case rel => exact ⟨L0, _, _, _, xc, yc, k, by omega, rfl, rfl, rfl, H6.out.1, .inr ⟨HM.out.2, H6.out.2⟩⟩
          have e1 : (q.k == 1) = false := by simpa using hk1
          clear hk1
          by_cases hk2 : q.k = 2
          · have e2 : (q.k == 2) = true := by simpa using hk2
            clear hk2
            as_aux_lemma =>
              obtain ⟨n, s, k, hn⟩ : ∃ n s k, numGo (leftOf al t.p t.q) 0 0 = (n, s, k) := ⟨_, _, _, rfl⟩
              have hn2 : numGo ((al.take t.q).drop t.r) 0 0 = (n, s, k) := by rw [HEv.out]; exact hn
              have HN : Hid (numGo ((al.take t.q).drop t.r) 0 0 = (n, s, k)) := hn2
              clear hn2
              by_cases hk : k = 0
              · subst hk
                have hm := numGo_lt hn rfl
                have C := rint_ok t.g w.heap.size al t.p t.q n s _ T0.out.1.rd' hn hm
                have HM : Hid (rtk 18446744073709551615 n s 0 = (n, s, 0)) := rtk_ok (by omega)
                clear hn hm
                go_wp2_with fail
                refine C.mono ?_
                rintro e w5 ⟨rfl, r5, f5⟩
                have C2 := refint_any t.h a0 cap (al.take t.q) t.r n s 0 w5 (T0.out.1.rfG f5 r5).1 (T0.out.1.rfG f5 r5).2 HN.out
                rw [HM.out] at C2
                have H5 : Hid (Fr (fun k => k = t.g) (wc.drewN nq) w5 ∧ Rdr w5 t.g w.heap.size al (t.p + s) t.q) := ⟨f5, r5⟩
                clear C r5 f5 u0 u1 d0 d1
                generalize zag n = z at *
                go_wp2_with fail
                refine C2.mono ?_
                rintro e w6 ⟨rfl, r6, f6⟩
                have H6 : Hid (Ev w w6 w.heap.size al a0 cap (some ⟨kx, 0, none⟩) (some ⟨ky, 0, none⟩) xc yc (L0 ++ [{ t with p := t.p + s, r := t.r + s }])) := T0.out.both H5.out.1 H5.out.2 f6 r6 (by rw [HEv.out])
                clear C2 r6 f6 H5
                go_wp2
                go_meet
                case rel => exact ⟨L0, _, _, _, xc, yc, 0, by omega, rfl, rfl, rfl, H6, .inl ⟨rfl, rfl⟩⟩
              · have C := rint_bad2 t.g w.heap.size al t.p t.q n s k _ T0.out.1.rd' hn hk
                have HM : Hid (rtk 18446744073709551615 n s k = (0, 0, k) ∧ k ≠ 0) := ⟨rtk_bad hk, hk⟩
                clear hn hk
                go_wp2_with fail
                refine C.mono ?_
                rintro e w5 ⟨v, rfl, wv, f5⟩
                have C2 := refint_any t.h a0 cap (al.take t.q) t.r n s k w5 (T0.out.1.rfQ f5).1 (T0.out.1.rfQ f5).2 HN.out
                rw [HM.out.1, show zag 0 = 0 from rfl] at C2
                have H5 : Hid (Fr (fun _ => False) (wc.drewN nq) w5 ∧ Wraps w5 [(t.p : Int)] v (.iface 29 (.int .i64 (k : Int))) ∧ RefR w5 t.h a0 cap (al.take t.q) t.r) := ⟨f5, wv, (T0.out.1.rfQ f5).1⟩
                clear C f5 wv u0 u1 d0 d1
                go_wp2_with fail
                refine C2.mono ?_
                rintro e w6 ⟨rfl, r6, f6⟩
                have H6 : Hid (Ev w w6 w.heap.size al a0 cap (some ⟨kx, 0, none⟩) (some ⟨ky, 0, none⟩) xc yc (L0 ++ [t]) ∧ Wraps w6 [(t.p : Int)] v (.iface 29 (.int .i64 (k : Int)))) := ⟨T0.out.none H5.out.1 f6 r6 rfl, H5.out.2.1.frH H5.out.2.2 f6⟩
                clear C2 r6 f6 H5
                go_wp2
                go_meet
                case rel => exact ⟨L0, _, _, _, xc, yc, k, by omega, rfl, rfl, rfl, H6.out.1, .inr ⟨HM.out.2, H6.out.2⟩⟩
          have e2 : (q.k == 2) = false := by simpa using hk2
          clear hk2
          by_cases hk3 : q.k = 3
          · have e3 : (q.k == 3) = true := by simpa using hk3
            clear hk3
            as_aux_lemma =>
              by_cases hz : wrap64 (q.n : Int) < 0
              · have C := rraw_neg t.g w.heap.size al t.p t.q (wrap64 (q.n : Int)) hz _ T0.out.1.rd'
                have HZ : Hid (wrap64 (q.n : Int) < 0) := hz
                clear hz
                go_wp2_with fail
                refine C.mono ?_
                rintro e w5 ⟨v, rfl, wv, f5⟩
                have d1 := f5.cell D1.out (fun h => h)
                have C2 := refraw_neg t.h (wrap64 (q.n : Int)) HZ.out w5
                have H5 : Hid (Ev w w5 w.heap.size al a0 cap (some ⟨kx, 0, none⟩) (some ⟨ky, 0, none⟩) xc yc (L0 ++ [t]) ∧ Wraps w5 [(t.p : Int)] v (.iface 29 (.int .i64 1))) := ⟨T0.out.quiet f5, wv⟩
                have s1 : (convert 55 9 (.slice none 0 0)).run Tryd.prog w5 = .ok (.string ⟨#[]⟩) w5 := conv_str [] none 0 w5 (.inl ⟨rfl, rfl⟩) (fun _ => rfl)
                clear C f5 wv u0 u1 d0
                go_wp2_with fail
                refine C2.mono ?_
                rintro e w6 ⟨rfl, rfl⟩
                clear C2 d1
                go_wp2
                go_meet
                case rel => exact ⟨L0, _, _, _, xc, yc, 1, by omega, rfl, rfl, rfl, H5.out.1, .inr ⟨by decide, H5.out.2⟩⟩
              · have HQ2 : Hid ((al.take t.q).length = t.q ∧ t.q ≤ al.length ∧ t.p ≤ t.q) := by have := T0.out.1.rd'.qb; have := T0.out.1.rd'.pq; exact ⟨by rw [List.length_take]; omega, by omega, by omega⟩
                by_cases hs : ((t.q - t.p : Nat) : Int) < wrap64 (q.n : Int)
                · have C := rraw_short t.g w.heap.size al t.p t.q (wrap64 (q.n : Int)) (by omega) _ T0.out.1.rd' hs
                  have HZ : Hid (0 ≤ wrap64 (q.n : Int) ∧ ((al.take t.q).length : Int) - (t.r : Nat) < wrap64 (q.n : Int)) := ⟨by omega, by have := HQ2.out; have := HEv.out; omega⟩
                  clear hz hs
                  go_wp2_with fail
                  refine C.mono ?_
                  rintro e w5 ⟨v, rfl, wv, f5⟩
                  have d1 := f5.cell D1.out (fun h => h)
                  have C2 := refraw_short t.h a0 cap (al.take t.q) t.r (wrap64 (q.n : Int)) w5 (T0.out.1.rfQ f5).1 HZ.out.1 HZ.out.2
                  have H5 : Hid (Ev w w5 w.heap.size al a0 cap (some ⟨kx, 0, none⟩) (some ⟨ky, 0, none⟩) xc yc (L0 ++ [t]) ∧ Wraps w5 [(t.p : Int)] v (.iface 29 (.int .i64 2))) := ⟨T0.out.quiet f5, wv⟩
                  clear C f5 wv u0 u1 d0
                  go_wp2_with fail
                  refine C2.mono ?_
                  rintro e w6 ⟨rfl, j, rfl⟩
                  have s1 : (convert 55 9 (.slice none 0 0)).run Tryd.prog (w5.drewN j) = .ok (.string ⟨#[]⟩) (w5.drewN j) := conv_str [] none 0 _ (.inl ⟨rfl, rfl⟩) (fun _ => rfl)
                  have H6 : Hid (Ev w (w5.drewN j) w.heap.size al a0 cap (some ⟨kx, 0, none⟩) (some ⟨ky, 0, none⟩) xc yc (L0 ++ [t]) ∧ Wraps (w5.drewN j) [(t.p : Int)] v (.iface 29 (.int .i64 2))) := ⟨H5.out.1.quiet (fr_drewN _ _), H5.out.2.fr (fr_drewN _ _)⟩
                  clear C2 d1 H5
                  go_wp2
                  go_meet
                  case rel => exact ⟨L0, _, _, _, xc, yc, 2, by omega, rfl, rfl, rfl, H6.out.1, .inr ⟨by decide, H6.out.2⟩⟩
                · obtain ⟨n, hzn⟩ : ∃ n : Nat, wrap64 (q.n : Int) = (n : Int) := ⟨(wrap64 (q.n : Int)).toNat, by omega⟩
                  have HN : Hid (t.p + n ≤ t.q) := by have := HQ2.out.2.2; unfold Hid; omega
                  have HZn : Hid (wrap64 (q.n : Int) = (n : Int)) := hzn
                  have C := rraw_ok t.g w.heap.size al t.p t.q n _ T0.out.1.rd' HN.out
                  rw [← hzn] at C
                  obtain ⟨K, hK⟩ : ∃ K, K = (wc.drewN nq).heap.size := ⟨_, rfl⟩
                  rw [← hK] at C
                  have HK : Hid (K ≠ t.h) := by have := heap_lt T0.out.1.rf'.obj; unfold Hid; omega
                  clear hK
                  clear hz hs hzn
                  go_wp2_with fail
                  refine C.mono ?_
                  rintro e w5 ⟨rfl, k5, r5, f5⟩
                  have d1 := f5.cell D1.out HAne.out.1
                  have C2 := refraw_ok t.h a0 cap (al.take t.q) t.r n w5 (T0.out.1.rfG f5 r5).1 (T0.out.1.rfG f5 r5).2 (by rw [HQ2.out.1, HEv.out]; exact HN.out)
                  rw [← HZn.out] at C2
                  have H5 : Hid (Fr (fun k => k = t.g) (wc.drewN nq) w5 ∧ Rdr w5 t.g w.heap.size al (t.p + n) t.q ∧ w5.heap[K]? = some (rowObj (leftOf al t.p (t.p + n)))) := ⟨f5, r5, k5⟩
                  clear C r5 f5 k5 u0 u1 d0
                  go_wp2_with fail
                  refine C2.mono ?_
                  rintro e w6 ⟨a', c', rfl, r6, f6, row6, hc6⟩
                  have H6 : Hid (Ev w w6 w.heap.size al a0 cap (some ⟨kx, 0, none⟩) (some ⟨ky, 0, none⟩) xc yc (L0 ++ [{ t with p := t.p + n, r := t.r + n }])) := T0.out.both H5.out.1 H5.out.2.1 f6 r6 (by rw [HEv.out])
                  obtain ⟨s1, s2⟩ := raw_convs (n := n) (a' := a') (c' := c') H5.out.2.2 f6 HK.out (by have := left_length (bs := al) (p := t.p) (q := t.p + n) (by have := HQ2.out; have := HN.out; omega); omega) (by rw [HEv.out]; exact raw_same HN.out) row6 hc6
                  clear C2 r6 f6 row6 H5 d1 hc6
                  generalize leftOf al t.p (t.p + n) = xs at *
                  go_wp2
                  go_meet
                  case rel => exact ⟨L0, _, _, _, xc, yc, 0, by omega, rfl, rfl, rfl, H6, .inl ⟨rfl, rfl⟩⟩
          have e3 : (q.k == 3) = false := by simpa using hk3
          clear hk3
          by_cases hk4 : q.k = 4
          · have e4 : (q.k == 4) = true := by simpa using hk4
            clear hk4
            as_aux_lemma =>
              obtain ⟨n, s, k, hn⟩ : ∃ n s k, numGo (leftOf al t.p t.q) 0 0 = (n, s, k) := ⟨_, _, _, rfl⟩
              have hn2 : numGo ((al.take t.q).drop t.r) 0 0 = (n, s, k) := by rw [HEv.out]; exact hn
              have HN : Hid (numGo ((al.take t.q).drop t.r) 0 0 = (n, s, k)) := hn2
              have HQ2 : Hid ((al.take t.q).length = t.q ∧ t.q ≤ al.length) := by have := T0.out.1.rd'.qb; exact ⟨by rw [List.length_take]; omega, this⟩
              clear hn2
              by_cases hk : k = 0
              · subst hk
                have hm := numGo_lt hn rfl
                by_cases hs : t.p + s + n ≤ t.q
                · have C := rsec_ok t.g w.heap.size al t.p t.q n s _ T0.out.1.rd' hn hs
                  have HM : Hid (t.p + s + n ≤ t.q) := hs
                  clear hn hm hs
                  go_wp2_with fail
                  refine C.mono ?_
                  rintro e w5 ⟨g2, rfl, r5, r5', hg2, f5⟩
                  have C2 := refsec_ok t.h a0 cap (al.take t.q) t.r n s w5 (T0.out.1.rfG f5 r5).1 (T0.out.1.rfG f5 r5).2 HN.out (by rw [HQ2.out.1, HEv.out]; exact HM.out)
                  have H5 : Hid (Fr (fun k => k = t.g) (wc.drewN nq) w5 ∧ Rdr w5 t.g w.heap.size al (t.p + s + n) t.q ∧ Rdr w5 g2 w.heap.size al (t.p + s) (t.p + s + n) ∧ (wc.drewN nq).heap.size ≤ g2) := ⟨f5, r5, r5', hg2⟩
                  clear C r5 f5 u0 u1 d0 d1 r5' hg2
                  go_wp2_with fail
                  refine C2.mono ?_
                  rintro e w6 ⟨h2, rfl, r6, r6', hh2, f6⟩
                  rw [List.take_take, Nat.min_eq_left (by rw [HEv.out]; exact HM.out), HEv.out] at r6'
                  have M6 := T0.out.more H5.out.1 H5.out.2.1 H5.out.2.2.1 H5.out.2.2.2 f6 r6 r6' hh2 (by rw [HEv.out])
                  have H6 : Hid _ := M6
                  obtain ⟨Lx, hLx⟩ : ∃ Lx, Lx = L0 ++ [{ t with p := t.p + s + n, r := t.r + s + n }] := ⟨_, rfl⟩
                  rw [← hLx] at H6 M6
                  have hLl : Lx.length = L0.length + 1 := by rw [hLx]; simp
                  have HLl : Hid (Lx.length = L0.length + 1) := hLl
                  have hown := M6.1.1.x
                  rw [hLl] at hown
                  obtain ⟨i0, hi, hz0, hz1, hz2⟩ := info_parts Tryd.info47
                  obtain ⟨j0, hj, hy0, hy1, hy2⟩ := info_parts Tryd.info79
                  clear C2 r6 r6' f6 hh2 H5 M6 hLx hLl
                  go_wp2_with (at_builtin; refine wpList_append_where _ rfl (.tmp 186) (.tmp 188) 78 rfl 47 i0 (.pointer none) 1 8 und78 hi hz0 hz1 hz2 rfl (by decide) (.slice (some ⟨kx, 0, none⟩) (L0.length + 1) xc) (L0.length + 1) (Lx.map Lv.gp) rfl (hown.alloc _) ⟨w6.heap.size, 0, none⟩ 1 1 [.pointer (some ⟨g2, 0, none⟩)] rfl rfl (cell_one_new _ _ _) (one_ptr _) ?c3 ?c4 ?_)
                  case c3 => unfold maxLen; omega
                  case c4 => omega
                  intro a2 c2 w7 q1 q2 q3
                  have hownY := H6.out.1.1.y7 (o1 := .cells #[.pointer (some ⟨g2, 0, none⟩)] 47) (w7 := w7) (by rw [HLl.out]; exact q2)
                  rw [HLl.out] at hownY
                  have HQ : Hid (w7.ownsRow 0 47 1 (.slice a2 (L0.length + 1 + 1) c2) (L0.length + 1 + 1) (Lx.map Lv.gp ++ [.pointer (some ⟨g2, 0, none⟩)]) ∧ (w6.alloc (.cells #[.pointer (some ⟨g2, 0, none⟩)] 47)).grownBy w7 (Value.slice (some ⟨kx, 0, none⟩) (L0.length + 1) xc).ownBlock ∧ ((Value.slice a2 (L0.length + 1 + 1) c2).ownBlock = (Value.slice (some ⟨kx, 0, none⟩) (L0.length + 1) xc).ownBlock ∨ (Value.slice a2 (L0.length + 1 + 1) c2).ownBlock = some (w6.alloc (.cells #[.pointer (some ⟨g2, 0, none⟩)] 47)).heap.size)) := ⟨q1, q2, by first | exact q3 | (simp only [World.size_alloc] at q3 ⊢; exact q3) | (simpa using q3)⟩
                  clear q1 q2 q3 hown
                  go_wp2_with (at_builtin; refine wpList_append_where _ rfl (.tmp 190) (.tmp 192) 82 rfl 79 j0 (.pointer none) 1 8 und82 hj hy0 hy1 hy2 rfl (by decide) (.slice (some ⟨ky, 0, none⟩) (L0.length + 1) yc) (L0.length + 1) (Lx.map Lv.hp) rfl (hownY.alloc _) ⟨w7.heap.size, 0, none⟩ 1 1 [.pointer (some ⟨h2, 0, none⟩)] rfl rfl (cell_one_new _ _ _) (one_ptr _) ?c3 ?c4 ?_)
                  case c3 => unfold maxLen; omega
                  case c4 => omega
                  intro a3 c3 w8 p1 p2 p3
                  have H8 : Hid (Ev w w8 w.heap.size al a0 cap a2 a3 c2 c3 (Lx ++ [⟨g2, h2, t.p + s, t.p + s, t.p + s + n⟩])) := by
                    obtain ⟨q1, q2, q3⟩ := HQ.out
                    rw [← HLl.out] at q1 q2 q3 p1 p2 p3
                    exact H6.out.1.app2 H6.out.2 rfl q1 q2 q3 p1 p2 (by first | exact p3 | (simp only [World.size_alloc] at p3 ⊢; exact p3) | (simpa using p3))
                  clear p1 p2 p3 hownY HQ hi hj
                  go_wp2
                  go_meet
                  case rel => exact ⟨Lx, _, _, _, c2, c3, 0, by rw [HLl.out]; omega, by rw [HLl.out], by rw [HLl.out], rfl, H8, .inl ⟨rfl, rfl⟩⟩
                · have C := rsec_short t.g w.heap.size al t.p t.q n s _ T0.out.1.rd' hn hm (by omega)
                  have HM : Hid (t.q < t.p + s + n) := by unfold Hid; omega
                  clear hn hm hs
                  go_wp2_with fail
                  refine C.mono ?_
                  rintro e w5 ⟨v, rfl, wv, f5⟩
                  have C2 := refsec_short t.h a0 cap (al.take t.q) t.r n s w5 (T0.out.1.rfQ f5).1 HN.out (by rw [HQ2.out.1, HEv.out]; exact HM.out)
                  have H5 : Hid (Fr (fun _ => False) (wc.drewN nq) w5 ∧ Wraps w5 [(t.p : Int)] v (.iface 29 (.int .i64 2))) := ⟨f5, wv⟩
                  clear C f5 wv u0 u1 d0 d1
                  go_wp2_with fail
                  refine C2.mono ?_
                  rintro e w6 ⟨rfl, f6⟩
                  have H6 : Hid (Ev w w6 w.heap.size al a0 cap (some ⟨kx, 0, none⟩) (some ⟨ky, 0, none⟩) xc yc (L0 ++ [t]) ∧ Wraps w6 [(t.p : Int)] v (.iface 29 (.int .i64 2))) := ⟨T0.out.quiet (H5.out.1.trans f6), H5.out.2.fr f6⟩
                  clear C2 f6 H5
                  go_wp2
                  go_meet
                  case rel => exact ⟨L0, _, _, _, xc, yc, 2, by omega, rfl, rfl, rfl, H6.out.1, .inr ⟨by decide, H6.out.2⟩⟩
              · have C := rsec_bad t.g w.heap.size al t.p t.q n s k _ T0.out.1.rd' hn hk
                have HM : Hid (k ≠ 0) := hk
                have hkb : ((k : Int) == 0) = false := by simpa using hk
                clear hn
                go_wp2_with fail
                refine C.mono ?_
                rintro e w5 ⟨v, rfl, wv, f5⟩
                have C2 := refsec_bad t.h a0 cap (al.take t.q) t.r n s k w5 (T0.out.1.rfQ f5).1 HN.out hk
                have H5 : Hid (Fr (fun _ => False) (wc.drewN nq) w5 ∧ Wraps w5 [(t.p : Int)] v (.iface 29 (.int .i64 (k : Int)))) := ⟨f5, wv⟩
                clear C f5 wv u0 u1 d0 d1 hk
                go_wp2_with fail
                refine C2.mono ?_
                rintro e w6 ⟨rfl, j, rfl⟩
                have H6 : Hid (Ev w (w5.drewN j) w.heap.size al a0 cap (some ⟨kx, 0, none⟩) (some ⟨ky, 0, none⟩) xc yc (L0 ++ [t]) ∧ Wraps (w5.drewN j) [(t.p : Int)] v (.iface 29 (.int .i64 (k : Int)))) := ⟨T0.out.quiet (H5.out.1.trans (fr_drewN _ _)), H5.out.2.fr (fr_drewN _ _)⟩
                clear C2 H5
                go_wp2
                go_meet
                case rel => exact ⟨L0, _, _, _, xc, yc, k, by omega, rfl, rfl, rfl, H6.out.1, .inr ⟨HM.out, H6.out.2⟩⟩
          have e4 : (q.k == 4) = false := by simpa using hk4
          clear hk4
          by_cases hk5 : q.k = 5
          · have e5 : (q.k == 5) = true := by simpa using hk5
            clear hk5
            as_aux_lemma =>
              have hcx := T0.out.1.x
              have hcy := T0.out.1.y
              have hxl : (L0.length + 1 : Int) ≤ xc ∧ (L0.length + 1 : Int) ≤ yc := by
                have e : (L0 ++ [t]).length = L0.length + 1 := by simp
                rw [e] at hcx hcy
                rcases hcx.2 with ⟨_, e2⟩ | ⟨g, cap, cur, e1, h1, h2, h3, h4, h5, h6⟩
                · omega
                · rcases hcy.2 with ⟨_, e2⟩ | ⟨g', cap', cur', e1', h1', h2', h3', h4', h5', h6'⟩
                  · omega
                  · simp only [Value.slice.injEq] at e1 e1'
                    obtain ⟨_, _, rfl⟩ := e1
                    obtain ⟨_, _, rfl⟩ := e1'
                    omega
              obtain ⟨hxl, hyl⟩ := hxl
              clear u0 u1 d0 d1 hcx hcy
              have hLc : L0 = [] ∨ ∃ L2 t2, L0 = L2 ++ [t2] := by
                rcases List.eq_nil_or_concat L0 with h | ⟨L2, t2, h⟩
                · exact .inl h
                · exact .inr ⟨L2, t2, by rw [h, List.concat_eq_append]⟩
              rcases hLc with rfl | ⟨L2, t2, rfl⟩
              · go_wp2
                go_meet
                case rel => exact ⟨[], t, _, _, xc, yc, 0, by simp, rfl, rfl, rfl, T0, .inl ⟨rfl, rfl⟩⟩
              · have T1 : Hid (Ev w (wc.drewN nq) w.heap.size al a0 cap (some ⟨kx, 0, none⟩) (some ⟨ky, 0, none⟩) xc yc (L2 ++ [t2])) := ⟨T0.out.1.pop, fun l hl => T0.out.2 l (List.mem_append_left _ hl)⟩
                have hl2 : (L2 ++ [t2]).length = L2.length + 1 := by simp
                rw [hl2] at hxl hyl hLl hLz hLn hLw ⊢
                push_cast at hxl hyl hLl hLz
                clear hl2
                have hl3 : (0 : Int) ≤ L2.length := by omega
                have hl4 : (L2.length : Int) ≤ 50 := by omega
                clear T0
                go_wp2
                go_quiet (fail)
                go_wp2
                go_meet
                case rel => exact ⟨L2, t2, _, _, xc, yc, 0, by omega, rfl, rfl, rfl, T1.out.quiet (fr_drewN _ _), .inl ⟨rfl, rfl⟩⟩
          have e5 : (q.k == 5) = false := by simpa using hk5
          clear hk5
          as_aux_lemma =>
            by_cases hpq : t.p < t.q
            · have C := end_bad t.g w.heap.size al t.p t.q _ T0.out.1.rd' hpq
              have hlt2 : (t.p : Int) < (t.q : Int) := by omega
              have HQ2 : Hid ((al.take t.q).length = t.q) := by have := T0.out.1.rd'.qb; unfold Hid; rw [List.length_take]; omega
              clear hpq
              go_wp2_with fail
              refine C.mono ?_
              rintro e w5 ⟨v, rfl, wv, f5⟩
              have u0 := (T0.out.1.rfQ f5).1.c0
              have u1 := (T0.out.1.rfQ f5).1.c1
              rw [HEv.out] at u1
              rw [HQ2.out] at u0
              have H5 : Hid (Ev w w5 w.heap.size al a0 cap (some ⟨kx, 0, none⟩) (some ⟨ky, 0, none⟩) xc yc (L0 ++ [t]) ∧ Wraps w5 [(t.p : Int)] v (.iface 29 (.int .i64 3))) := ⟨T0.out.quiet f5, wv⟩
              clear C f5 wv d0 d1
              go_wp2
              go_quiet (fail)
              go_wp2
              go_meet
              case rel => exact ⟨L0, _, _, _, xc, yc, 3, by omega, rfl, rfl, rfl, H5.out.1.quiet (fr_drewN _ _), .inr ⟨by decide, H5.out.2.fr (fr_drewN _ _)⟩⟩
            · have R := T0.out.1.rd'
              obtain rfl' : t.q = t.p := by have := R.pq; omega
              have hlt2 : ¬ (t.p : Int) < (t.q : Int) := by omega
              have HQ2 : Hid ((al.take t.q).length = t.q) := by have := R.qb; unfold Hid; rw [List.length_take]; omega
              rw [rfl'] at R
              have C := end_ok t.g w.heap.size al t.p _ R
              clear hpq R rfl'
              go_wp2_with fail
              refine C.mono ?_
              rintro e w5 ⟨rfl, j, hw5⟩
              have H5 : Hid (Ev w w5 w.heap.size al a0 cap (some ⟨kx, 0, none⟩) (some ⟨ky, 0, none⟩) xc yc (L0 ++ [t])) := by rw [hw5]; exact T0.out.quiet (fr_drewN _ _)
              clear hw5
              have u0 := H5.out.1.rf'.c0
              have u1 := H5.out.1.rf'.c1
              rw [HEv.out] at u1
              rw [HQ2.out] at u0
              clear C d0 d1
              go_wp2
              go_quiet (fail)
              go_wp2
              go_meet
              case rel => exact ⟨L0, _, _, _, xc, yc, 0, by omega, rfl, rfl, rfl, H5.out.quiet (fr_drewN _ _), .inl ⟨rfl, rfl⟩⟩
        case rest =>
          obtain ⟨L1, t2, xa, ya, xc, yc, f, hL1, rfl, rfl, rfl, hT, hcase⟩ := hcut
          clear t0 t1 u0 u1 d0 d1 hS hA
          go_upto_region 51 with fail
          go_cut [226] (fun v wy => v = .bool false ∧ Hid (Ev w wy w.heap.size al a0 cap xa ya xc yc (L1 ++ [t2])))
          case first => as_aux_lemma =>
            rcases hcase with ⟨rfl, rfl⟩ | ⟨hf, hw⟩
            · go_wp2_with fail
              refine (kind_nil _).mono ?_
              rintro e w5 ⟨rfl, f5⟩
              have T5 : Hid (Ev w w5 w.heap.size al a0 cap xa ya xc yc (L1 ++ [t2])) := hT.out.quiet f5
              clear f5 hT
              go_wp2
              go_meet
              case rel => exact ⟨rfl, T5⟩
            · obtain ⟨Te, xe, rfl⟩ := hw.out.iface
              have hf0 : ((f : Int) != 0) = true := by simpa using hf
              have hff : ((f : Int) != (f : Int)) = false := by simp
              have HGF : Hid (∀ W, Stk w W w.heap.size al a0 cap xa ya xc yc (L1 ++ [t2]) → Glob W) := fun W h => (h.lv.be.cell HG.out.1.lt).trans HG.out.1
              clear hf
              go_wp2_with fail
              refine (kind_any [(t.p : Int)] (.iface Te xe) f _ (HGF.out _ hT.out.1) hw.out.err).mono ?_
              rintro e w5 ⟨rfl, f5⟩
              have T5 : Hid (Ev w w5 w.heap.size al a0 cap xa ya xc yc (L1 ++ [t2])) := hT.out.quiet f5
              have W5 : Hid (Wraps w5 [(t.p : Int)] (.iface Te xe) (.iface 29 (.int .i64 (f : Int)))) := hw.out.fr f5
              clear f5 hT hw
              go_wp2_with fail
              refine (path_any (noPlace_errno (f : Int)) [(t.p : Int)] (.iface Te xe) w5 (HGF.out _ T5.out.1) W5.out (by simp)).mono ?_
              rintro e w6 ⟨a6, c6, rfl, o6, f6, _⟩
              have T6 : Hid (Ev w w6 w.heap.size al a0 cap xa ya xc yc (L1 ++ [t2]) ∧ Row w6 a6 (I64 [(t.p : Int)])) := ⟨T5.out.quiet f6, own_row3 o6⟩
              clear f6 o6 T5 W5
              go_wp2_with fail
              refine (same_any a6 (some ⟨w6.heap.size, 0, none⟩) c6 1 [(t.p : Int)] [(t.p : Int)] (w6.alloc (.cells (I64 [(t.p : Int)]).toArray 3)) (T6.out.2.keep ((Fr.refl (fun _ => False) _).alloc _) (fun _ _ h => h)) (new_row3 w6 [(t.p : Int)]) (by simp) (by simp)).mono ?_
              rintro e w7 ⟨rfl, j7, h7⟩
              have T7 : Hid (Ev w w7 w.heap.size al a0 cap xa ya xc yc (L1 ++ [t2])) := by
                have f : Fr (fun _ => False) w6 w7 := by rw [h7]; exact Fr.trans ((Fr.refl _ _).alloc _) (Fr.ofBelow ⟨rfl, rfl, rfl, Nat.le_refl _, fun _ _ => rfl⟩)
                exact T6.out.1.quiet f
              clear h7 T6
              rw [show decide ([(t.p : Int)] = [(t.p : Int)]) = true from by simp]
              go_wp2
              go_meet
              case rel => exact ⟨rfl, T7⟩
          case rest => as_aux_lemma =>
            obtain ⟨rfl, hU⟩ := hcut
            clear hT hcase
            obtain ⟨kx2, ky2, rfl, rfl, t0, t1⟩ := hU.out.1.top
            have u0 := hU.out.1.rf'.c0
            have u1 := hU.out.1.rf'.c1
            rw [hU.out.2 t2 mem_top] at u1
            unfold Lv.gp at t0
            unfold Lv.hp at t1
            have hL1l : (L1.length : Int) ≤ 51 := by omega
            have hL1z : (0 : Int) ≤ L1.length := by omega

            have R2 : Hid (Rdr wc t2.g w.heap.size al t2.p t2.q) := hU.out.1.rd'
            have hql2 : (al.take t2.q).length = t2.q := by rw [List.length_take]; have := R2.out.qb; omega
            rw [hql2] at u0
            have hz1 : (0 : Int) ≤ t2.p := by omega
            have hz2 : (t2.p : Int) ≤ t2.q := by have := R2.out.pq; omega
            have hz3 : (t2.q : Int) ≤ 200 := by have := R2.out.qb; have := HA.out.2.2.1; omega
            clear hql2
            go_wp2
            go_quiet (fail)
            have hU2 : Hid (Ev w (wc.drewN nq) w.heap.size al a0 cap (some ⟨kx2, 0, none⟩) (some ⟨ky2, 0, none⟩) xc yc (L1 ++ [t2])) := hU.out.quiet (fr_drewN _ _)
            clear t0 t1 hU u0 u1 R2
            generalize wc.drewN nq = W at *
            have u0 := hU2.out.1.rf'.c0
            have u1 := hU2.out.1.rf'.c1
            rw [hU2.out.2 t2 mem_top] at u1
            have R2 : Hid (Rdr W t2.g w.heap.size al t2.p t2.q) := hU2.out.1.rd'
            rw [show (al.take t2.q).length = t2.q from by rw [List.length_take]; have := R2.out.qb; omega] at u0
            have CA : ∀ j, Calls Tryd.prog 42 #[.pointer (some ⟨t2.g, 0, none⟩)] (W.drewN j) fun e w' => e = .returned (.int .i64 (t2.p : Int)) ∧ w' = W.drewN j :=
              fun j => (rat_any t2.g w.heap.size al t2.p t2.q _ (R2.out.drewN j)).mono fun _ _ ⟨a, b⟩ => ⟨a, b.symm⟩
            have CL : ∀ j, Calls Tryd.prog 41 #[.pointer (some ⟨t2.g, 0, none⟩)] (W.drewN j) fun e w' => e = .returned (.int .i64 ((t2.q : Int) - (t2.p : Int))) ∧ ∃ m, w' = (W.drewN j).drewN m := by
              intro j
              have h := left_any t2.g w.heap.size al t2.p t2.q _ (R2.out.drewN j)
              rwa [show ((t2.q - t2.p : Nat) : Int) = (t2.q : Int) - (t2.p : Int) from by omega] at h
            go_wp2
            go_quiet (first | (go_at_call 42; exact Calls.quiet_of_same (CA _)) | (go_at_call 41; exact Calls.quiet_of (CL _)) | fail)
            clear CA CL u0 u1
            go_wp2
            go_roundw
            case rel => exact ⟨m + 1, L1, t2, _, _, xc, yc, by go_num, by omega, by omega, hL1, rfl, rfl, hU2.out.quiet (fr_drewN _ _)⟩
            case measure => simp [intOf]; omega
      · clear hL hm
        have HB : Hid (Glob wr ∧ Below w.heap.size w wr) := ⟨(hS.out.1.lv.be.cell HG.out.1.lt).trans HG.out.1, hS.out.1.lv.be⟩
        clear hS
        by_cases hl : m < qs.length
        all_goals
          first
            | (have m1 : (m : Int) < qs.length := by omega
               have m2 : ¬ (m : Int) < 50 := by omega
               go_wp2_with fail)
            | (have m1 : ¬ (m : Int) < qs.length := by omega
               go_wp2_with fail)
          refine (lays_any wr HB.out.1).mono ?_
          rintro e w6 ⟨rfl, f6⟩
          go_wp2
          go_ret
          exact ⟨rfl, HB.out.2.trans (f6.mono (by first | exact HB.out.2.size | exact HB.out.2.le | omega))⟩
end Go.Proofs.YtcmmjkkpjclfgaaDoor
