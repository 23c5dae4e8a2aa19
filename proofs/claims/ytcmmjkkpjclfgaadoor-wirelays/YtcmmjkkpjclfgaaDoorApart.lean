import Derived.Test.YtcmmjkkpjclfgaaDoorLays
import Derived.Deep.DeepCutAuto
namespace Go.Proofs.YtcmmjkkpjclfgaaDoor
open Go.RowKit

/-- a row of the call's own that holds the bytes xs -/
structure OwnB (B : Nat) (w0 w : World) (a : Option Addr) (c : Nat) (xs : List UInt8) : Prop where
  own : w.ownsRow 0 5 1 (.slice a xs.length c) xs.length (B8 xs)
  be : Below B w0 w
  lo : ∀ k, (Value.slice a xs.length c).ownBlock = some k → B ≤ k
theorem take_row {w : World} {a : Option Addr} {ys : List UInt8} (h : Row w a (B8 ys)) (m : Nat) : Row w a (B8 (ys.take m)) := by
  rcases h with ⟨rfl, h⟩ | ⟨x, rfl, h⟩
  · have e : ys = [] := List.eq_nil_of_length_eq_zero (by rw [← B8_length, h]; rfl)
    exact .inl ⟨rfl, by simp [e, B8]⟩
  · refine .inr ⟨x, rfl, fun j u hj => h j u ?_⟩
    simp only [B8, List.getElem?_map, List.getElem?_take] at hj ⊢
    split at hj
    · exact hj
    · simp at hj

theorem ownB_append {w w1 : World} {a' : Option Addr} {c' n : Nat} {xs : List UInt8} {vs : List Value} (hx : vs = B8 xs) (hn : n = xs.length) (ho : w1.ownsRow 0 5 1 (.slice a' n c') n vs) (hg : (w.alloc (.cells #[] 5)).grownBy w1 (some w.heap.size))
    (hw : (Value.slice a' n c').ownBlock = some w.heap.size ∨ (Value.slice a' n c').ownBlock = some (w.heap.size + 1)) : OwnB w.heap.size w w1 a' c' xs := by
  subst hx
  subst hn
  refine ⟨ho, ?_, fun k hk => ?_⟩
  · exact ((Below.refl _ w).alloc (Nat.le_refl _) _).grown hg (by simp) (fun k hk => by cases hk; exact Nat.le_refl _)
  · rcases hw with h | h <;> rw [h] at hk <;> cases hk <;> omega

theorem OwnB.row {B : Nat} {w0 w : World} {a : Option Addr} {c : Nat} {xs : List UInt8} (h : OwnB B w0 w a c xs) : Row w a (B8 xs) ∧ (a = none → c = 0) := by
  have hb := own_bs h.own
  refine ⟨?_, fun e => ?_⟩
  · rcases hb with ⟨h1, h2⟩ | h1
    · exact .inl ⟨h1, by rw [h2]; rfl⟩
    · exact .inr h1
  · subst e
    rcases h.own.2 with ⟨h1, _⟩ | ⟨g, cap, cur, h1, _⟩
    · simp only [Value.slice.injEq] at h1; exact h1.2.2
    · cases h1
theorem OwnB.keep {S : Nat → Prop} {B : Nat} {w0 w w' : World} {a : Option Addr} {c : Nat} {xs : List UInt8} (h : OwnB B w0 w a c xs) (f : Fr S w w') (hB : ∀ k, S k → B ≤ k) (hs : ∀ k, (Value.slice a xs.length c).ownBlock = some k → ¬ S k) (hBw : B ≤ w.heap.size) : OwnB B w0 w' a c xs :=
  ⟨ownsRow_heap h.own (fun k hk => f.block k (ownBlock_lt0 h.own k hk) (hs k hk)), h.be.trans (f.below hBw hB), h.lo⟩

theorem xor1_fin : ∀ x : Fin 256, 0 ≤ bits BinOp.xor IntKind.u8 (x.val : Int) 1 ∧ bits BinOp.xor IntKind.u8 (x.val : Int) 1 < 256 := by decide +kernel
theorem xor1 (c : UInt8) : ∃ u : UInt8, bits BinOp.xor IntKind.u8 (c.toNat : Int) 1 = (u.toNat : Int) := by
  have h : 0 ≤ bits BinOp.xor IntKind.u8 (c.toNat : Int) 1 ∧ bits BinOp.xor IntKind.u8 (c.toNat : Int) 1 < 256 := xor1_fin ⟨c.toNat, c.toNat_lt⟩
  generalize bits BinOp.xor IntKind.u8 (c.toNat : Int) 1 = z at *
  refine ⟨UInt8.ofNat z.toNat, ?_⟩
  rw [UInt8.toNat_ofNat_of_lt' (show z.toNat < 256 by omega)]
  omega
/-- a row of the call's own beside a Writer and a Reader: it may be written -/
structure Beside (w wi : World) (N : Nat) (r : Option Nat) (bs : List UInt8) (g rb : Nat) (cs : List UInt8) (p q : Nat) (a : Option Addr) (m c : Nat) : Prop where
  both : Both w wi N r bs g rb cs p q
  own : ∃ zs : List UInt8, zs.length = m ∧ wi.ownsRow 0 5 1 (.slice a m c) m (B8 zs)
  ap : ∀ k, (Value.slice a m c).ownBlock = some k → w.heap.size ≤ k ∧ k ≠ N ∧ r ≠ some k ∧ k ≠ g ∧ k ≠ rb
theorem own_rowObj {w : World} {k : Nat} {xs : List UInt8} (h : w.heap[k]? = some (rowObj xs)) (hl : xs.length ≤ maxLen) : w.ownsRow 0 5 1 (.slice (some ⟨k, 0, none⟩) xs.length xs.length) xs.length (B8 xs) :=
  ⟨by rw [B8_length, Nat.mul_one], .inr ⟨k, xs.length, (B8 xs).toArray, rfl, Nat.zero_le _, h, Nat.le_refl _, hl, by simp [B8], by rw [Nat.mul_one, ← B8_length, List.take_length]⟩⟩
theorem Beside.at {w wi : World} {N : Nat} {r : Option Nat} {bs : List UInt8} {g rb : Nat} {cs : List UInt8} {p q : Nat} {a : Option Addr} {m c j : Nat} (h : Beside w wi N r bs g rb cs p q a m c) (hj : j < m) :
    ∃ kb u, a = some ⟨kb, 0, none⟩ ∧ wi.cell? ⟨kb, j, none⟩ = some (.int .u8 ((u : UInt8).toNat : Int)) ∧ wi.frozen? ⟨kb, j, none⟩ = false ∧
      ∀ u' : UInt8, Beside w (wi.setCell ⟨kb, j, none⟩ (.int .u8 (u'.toNat : Int))) N r bs g rb cs p q a m c := by
  obtain ⟨hb, ⟨zs, hz, ho⟩, ap⟩ := h
  rcases ho.2 with ⟨e, e2⟩ | ⟨kb, cap, cur, e, _⟩
  · omega
  · have ea : a = some ⟨kb, 0, none⟩ ∧ c = cap := by simp only [Value.slice.injEq] at e; exact ⟨e.1, e.2.2⟩
    obtain ⟨rfl, rfl⟩ := ea
    have hap := ap kb rfl
    have hjz : j < zs.length := by omega
    refine ⟨kb, zs[j], rfl, ?_, ho.frozenAt j, fun u' => ?_⟩
    · rw [ho.cellAt j (by omega)]; simp [B8, hjz]
    · have f : Fr (fun k => k = kb) wi (wi.setCell ⟨kb, j, none⟩ (.int .u8 (u'.toNat : Int))) := (Fr.refl (fun k => k = kb) wi).setCell ⟨kb, j, none⟩ (fun _ => rfl) _
      refine ⟨⟨hb.wt.keep f (Ne.symm hap.2.1) (fun k hk e => hap.2.2.1 (by rw [hk, e])), hb.rd.keep f (Ne.symm hap.2.2.2.1) (Ne.symm hap.2.2.2.2), hb.be.trans (f.below hb.be.size (fun k hk => by subst hk; exact hap.1)), hb.n0, hb.r0, hb.g0⟩, ⟨zs.set j u', by simpa using hz, ?_⟩, ap⟩
      have := (ho.stored j (.int .u8 (u'.toNat : Int))).1
      have e3 : (B8 zs).set j (.int .u8 (u'.toNat : Int)) = B8 (zs.set j u') := by simp [B8, List.map_set]
      rw [e3] at this
      exact this

theorem bytes_toList (xs : List UInt8) : ByteArray.toList ⟨xs.toArray⟩ = xs := by simp
theorem cat7 (xs : List UInt8) : (xs ++ [7] == ((⟨xs.toArray⟩ : ByteArray) ++ ⟨#[7]⟩).toList) = true := by
  have e : ((⟨xs.toArray⟩ : ByteArray) ++ ⟨#[7]⟩) = ⟨(xs ++ [7]).toArray⟩ := by
    apply ByteArray.ext
    simp
  rw [e, bytes_toList]
  simp

set_option maxRecDepth 100000 in
set_option maxHeartbeats 1000000 in
theorem apart_walk (a0 : Option Addr) (len cap : Nat) (ys : List UInt8) (w : World) (hG : Glob w) (hin : Row w a0 (B8 ys)) (hcap : ys.length = cap) (hlen : len ≤ cap) (hnil : a0 = none → cap = 0) (hmax : cap ≤ 140737488355328) :
    Calls Tryd.prog 11 #[.slice a0 len cap] w fun e w' => e = .returned (.bool true) ∧ Below w.heap.size w w' := by
  have HG : Hid (Glob w) := hG
  have b1 : (len : Int) ≤ cap := by omega
  have b2 : (cap : Int) ≤ 140737488355328 := by omega
  obtain ⟨xs, hxs⟩ : ∃ xs, xs = ys.take (min len 40) := ⟨_, rfl⟩
  have HX : Hid (xs.length = min len 40 ∧ Row w a0 (B8 xs)) := by subst hxs; exact ⟨by simp; omega, take_row hin _⟩
  have HN : Hid (a0 = none → cap = 0) := hnil
  obtain ⟨i0, hi, hz0, hz1, hz2⟩ := info_parts Tryd.info5
  have hown : (w.alloc (.cells #[] 5)).ownsRow 0 5 1 (.slice (some ⟨w.heap.size, 0, none⟩) 0 0) 0 [] := World.ownsRow_lit w #[] 0 (Nat.zero_le _) (Nat.zero_le _) rfl
  clear hG hin hcap hnil hmax hxs hlen
  go_enter Tryd.func11, Tryd.ntmps11
  go_upto_region 1 with fail
  go_cut [0] (fun v wx => ∃ a' c', v = .slice a' xs.length c' ∧ Hid (OwnB w.heap.size w wx a' c' xs))
  case first =>
    rcases a0 with _ | x
    · obtain rfl := HN.out rfl
      obtain rfl : len = 0 := by omega
      have HE : Hid (xs = []) := List.eq_nil_of_length_eq_zero (by have := HX.out.1; omega)
      have HAP : Hid (∀ ty, (Builtin.append_ #[55, 55] ty #[.slice (some ⟨w.heap.size, 0, none⟩) 0 0, .slice none 0 0]).run Tryd.prog (w.alloc (.cells #[] 5)) = .ok (.slice (some ⟨w.heap.size, 0, none⟩) 0 0) (w.alloc (.cells #[] 5))) :=
        fun ty => run_append_owned_none _ 0 55 ty 5 i0 1 Tryd.underlying55 hi _ _ _ hown
      have R : Hid (OwnB w.heap.size w (w.alloc (.cells #[] 5)) (some ⟨w.heap.size, 0, none⟩) 0 []) := ⟨hown, (Below.refl _ w).alloc (Nat.le_refl _) _, fun k hk => by cases hk; exact Nat.le_refl _⟩
      clear hi hown
      go_wp2_with (at_builtin; refine wpList_append_none _ rfl (.tmp 11) (.tmp 16) 55 rfl _ rfl rfl HAP.out ?_)
      go_meet
      case rel => exact ⟨_, _, by rw [HE.out]; rfl, by rw [HE.out]; exact R⟩
    · have hx : ∀ j u, (B8 xs)[j]? = some u → (w.alloc (.cells #[] 5)).cell? (x.add j) = some u := by
        rcases HX.out.2 with ⟨h, _⟩ | ⟨x', h, hc⟩
        · cases h
        · cases h
          intro j u hj
          rw [World.cell?_alloc_lt _ _ _ (World.block_lt_of_cell? _ _ (hc j u hj))]; exact hc j u hj
      by_cases h40 : len ≤ 40
      · have HM : Hid (xs.length = len) := by have := HX.out.1; unfold Hid; omega
        have h40' : ¬ (40 : Int) < len := by omega
        go_wp2_with (at_builtin; refine wpList_append_where _ rfl (.tmp 11) (.tmp 16) 55 rfl 5 i0 (.int .u8 0) 1 1 Tryd.underlying55 hi hz0 hz1 hz2 rfl (by decide) _ 0 [] rfl hown x len cap (B8 xs) rfl (by rw [B8_length, Nat.mul_one]; exact HM.out) hx (b8_one xs) ?c3 ?c4 ?_)
        case c3 => unfold maxLen; omega
        case c4 => omega
        intro a' c' w1 hown' hgrow hwh
        have R : Hid (OwnB w.heap.size w w1 a' c' xs) := ownB_append rfl (by have := HM.out; omega) hown' hgrow hwh
        clear hi hgrow hown' hown hwh hx
        go_wp2
        go_meet
        case rel => exact ⟨a', c', by rw [HM.out], R⟩
      · have HM : Hid (xs.length = 40) := by have := HX.out.1; unfold Hid; omega
        have h40' : (40 : Int) < len := by omega
        go_wp2_with (at_builtin; refine wpList_append_where _ rfl (.tmp 11) (.tmp 16) 55 rfl 5 i0 (.int .u8 0) 1 1 Tryd.underlying55 hi hz0 hz1 hz2 rfl (by decide) _ 0 [] rfl hown x 40 cap (B8 xs) rfl (by rw [B8_length, Nat.mul_one]; exact HM.out) hx (b8_one xs) ?c3 ?c4 ?_)
        case c3 => unfold maxLen; omega
        case c4 => omega
        intro a' c' w1 hown' hgrow hwh
        have R : Hid (OwnB w.heap.size w w1 a' c' xs) := ownB_append rfl (by have := HM.out; omega) hown' hgrow hwh
        clear hi hgrow hown' hown hwh hx
        go_wp2
        go_meet
        case rel => exact ⟨a', c', by rw [HM.out], R⟩
  case rest =>
    obtain ⟨a', c', rfl, hO⟩ := hcut
    have hm40 : xs.length ≤ 40 := by have := HX.out.1; omega
    have hm40' : (xs.length : Int) ≤ 40 := by omega
    have hst : (convert 55 9 (.slice a' xs.length c')).run Tryd.prog wc = .ok (.string ⟨xs.toArray⟩) wc := conv_str xs a' c' wc hO.out.row.1 hO.out.row.2
    have HM : Hid (xs.length ≤ 40) := hm40
    clear hm40 HX HN hi hz0 hz1 hz2 hown b1 b2
    go_wp2_with fail
    refine (new_any wc).mono ?_
    rintro e w1 ⟨rfl, h1⟩
    have f1 : Fr (fun _ => False) wc w1 := by rw [h1]; exact (Fr.refl _ _).alloc _
    have t1 : Wtr w1 wc.heap.size none [] := by rw [h1]; exact wtr_new wc
    have O1 := hO.out.keep f1 (fun _ h => h.elim) (fun _ _ h => h) hO.out.be.size
    have S1 : Hid (OwnB w.heap.size w w1 a' c' xs ∧ Wtr w1 wc.heap.size none [] ∧ w.heap.size ≤ wc.heap.size ∧ ∀ k, (Value.slice a' xs.length c').ownBlock = some k → k < wc.heap.size) := ⟨O1, t1, hO.out.be.size, ownBlock_lt0 hO.out.own⟩
    clear h1 f1 t1 O1 hst hO
    generalize wc.heap.size = g at *
    go_wp2_with fail
    refine (wraw_any g none [] xs a' c' w1 S1.out.2.1 S1.out.1.row.1.bs S1.out.1.row.2 (by have := HM.out; simp; omega)).mono ?_
    rintro e w2 ⟨rfl, h2⟩
    obtain ⟨r2, t2, f2, hr2⟩ := h2
    have S2 : Hid (OwnB w.heap.size w w2 a' c' xs ∧ Wtr w2 g r2 xs ∧ w.heap.size ≤ g ∧ (∀ k, (Value.slice a' xs.length c').ownBlock = some k → k ≠ g ∧ r2 ≠ some k) ∧ ∀ k, r2 = some k → w.heap.size ≤ k) := by
      obtain ⟨O1, t1, hg1, hlt1⟩ := S1.out
      refine ⟨O1.keep f2 ?_ ?_ O1.be.size, by simpa using t2, hg1, fun k hk => ?_, fun k hk => ?_⟩
      · rintro k (rfl | hk)
        · exact hg1
        · cases hk
      · rintro k hk (rfl | hk2)
        · exact absurd (hlt1 _ hk) (Nat.lt_irrefl _)
        · cases hk2
      · have := hlt1 k hk
        refine ⟨by omega, fun e => ?_⟩
        rcases hr2 with h | ⟨k', h, hk'⟩
        · rw [h] at e; cases e
        · rw [h] at e; cases e
          have := ownBlock_lt0 O1.own k hk
          omega
      · rcases hr2 with h | ⟨k', h, hk'⟩
        · rw [h] at hk; cases hk
        · rw [h] at hk; cases hk
          have := O1.be.size
          omega
    clear t2 f2 hr2 S1
    go_wp2_with fail
    refine (read_any a' c' xs w2 S2.out.1.row.1.bs (by have := HM.out; omega)).mono ?_
    rintro e w3 ⟨rfl, h3⟩
    have S3 : Hid (Beside w w3 g r2 xs (w2.heap.size + 1) w2.heap.size xs 0 xs.length a' xs.length c') := by
      obtain ⟨O2, t2, hg2, hap2, hr2⟩ := S2.out
      have hl2 := ownBlock_lt0 O2.own
      have f3 : Fr (fun _ => False) w2 w3 := by rw [h3]; exact ((Fr.refl _ _).alloc _).alloc _
      refine ⟨by rw [h3]; exact both_new t2 O2.be hg2 hr2 (by have := HM.out; omega), ⟨xs, rfl, (O2.keep f3 (fun _ h => h.elim) (fun _ _ h => h) O2.be.size).own⟩, fun k hk => ?_⟩
      have := hl2 k hk
      exact ⟨O2.lo k hk, (hap2 k hk).1, (hap2 k hk).2, by omega, by omega⟩
    clear h3 S2
    generalize w2.heap.size + 1 = g2 at *
    generalize w2.heap.size = rb2 at *
    go_wp2_with fail
    go_loopw [6] (fun i wr => ∃ k : Nat, i = .int .i64 k ∧ k ≤ xs.length ∧ Hid (Beside w wr g r2 xs g2 rb2 xs 0 xs.length a' xs.length c')) (fun i _ => xs.length - (intOf i).toNat)
    case atStart => exact ⟨0, rfl, Nat.zero_le _, S3⟩
    case round =>
      obtain ⟨k, rfl, hk, hB⟩ := hrel
      by_cases hlt : k < xs.length
      · obtain ⟨kb, u, rfl, hc, hf, hnext⟩ := hB.out.at hlt
        obtain ⟨u', hu'⟩ := xor1 u
        have HN' : Hid (Beside w (wr.setCell ⟨kb, k, none⟩ (.int .u8 (bits BinOp.xor IntKind.u8 (u.toNat : Int) 1))) g r2 xs g2 rb2 xs 0 xs.length (some ⟨kb, 0, none⟩) xs.length c') := by rw [hu']; exact hnext u'
        have hlt' : (k : Int) < xs.length := by omega
        clear hB S3 hnext hu'
        go_wp2
        go_roundw
        case rel => exact ⟨k + 1, by go_num, by omega, HN'⟩
        case measure => simp [intOf]; omega
      · have hlt' : ¬ (k : Int) < xs.length := by omega
        clear S3
        go_wp2_with fail
        refine (bytes_any g r2 xs wr hB.out.both.wt (by have := HM.out; omega)).mono ?_
        rintro e w4 ⟨rfl, h4⟩
        have S4 : Hid (Both w w4 g r2 xs g2 rb2 xs 0 xs.length ∧ w4.heap[wr.heap.size]? = some (rowObj xs) ∧ w.heap.size ≤ wr.heap.size ∧ g < wr.heap.size ∧ (∀ k, r2 = some k → k < wr.heap.size) ∧ g2 < wr.heap.size ∧ rb2 < wr.heap.size) := by
          have hb := hB.out.both
          rw [h4]
          exact ⟨hb.quiet ((Fr.refl _ _).alloc _), heap_alloc_new wr _, hb.be.size, hb.wt.lt.1, hb.wt.lt.2, heap_lt hb.rd.obj, heap_lt hb.rd.row⟩
        clear h4 hB
        generalize wr.heap.size = kx at *
        go_wp2_with fail
        refine (rraw_ok g2 rb2 xs 0 xs.length xs.length w4 S4.out.1.rd (by omega)).mono ?_
        rintro e w5 ⟨rfl, hy5, hr5, hf5⟩
        have hl5 : leftOf xs 0 (0 + xs.length) = xs := by simp [leftOf]
        rw [hl5] at hy5
        have hx5 : w5.heap[kx]? = some (rowObj xs) := hf5.heap S4.out.2.1 (by have := S4.out.2.2.2.2.2.1; omega)
        have S5 : Hid (Beside w w5 g r2 xs g2 rb2 xs (0 + xs.length) xs.length (some ⟨kx, 0, none⟩) xs.length xs.length) := by
          obtain ⟨hb, hx, h1, h2, h3, h4, h5⟩ := S4.out
          refine ⟨hb.step hr5 hf5, ⟨xs, rfl, own_rowObj hx5 (by have := HM.out; unfold maxLen; omega)⟩, fun k hk => ?_⟩
          obtain rfl : kx = k := Option.some.inj hk
          exact ⟨h1, by omega, fun e => by have := h3 _ e; omega, by omega, by omega⟩
        have hsx : (convert 55 9 (.slice (some ⟨kx, 0, none⟩) xs.length xs.length)).run Tryd.prog w5 = .ok (.string ⟨xs.toArray⟩) w5 := conv_str xs _ _ w5 (rowObj_row hx5) (fun h => by cases h)
        have hsy : (convert 55 9 (.slice (some ⟨w4.heap.size, 0, none⟩) xs.length xs.length)).run Tryd.prog w5 = .ok (.string ⟨xs.toArray⟩) w5 := conv_str xs _ _ w5 (rowObj_row hy5) (fun h => by cases h)
        clear hy5 hr5 hf5 hl5 hx5 S4
        generalize w4.heap.size = ky at *
        go_wp2_with fail
        clear hsx hsy
        go_loopw [10] (fun i wr => ∃ k : Nat, i = .int .i64 k ∧ k ≤ xs.length ∧ Hid (Beside w wr g r2 xs g2 rb2 xs (0 + xs.length) xs.length (some ⟨kx, 0, none⟩) xs.length xs.length)) (fun i _ => xs.length - (intOf i).toNat)
        case atStart => exact ⟨0, rfl, Nat.zero_le _, S5⟩
        case round =>
          obtain ⟨k', rfl, hk', hB⟩ := hrel
          by_cases hlt : k' < xs.length
          · obtain ⟨kb, u, hkb, hc, hf, hnext⟩ := hB.out.at hlt
            cases hkb
            obtain ⟨u', hu'⟩ := xor1 u
            have HN' : Hid (Beside w (wr.setCell ⟨kx, k', none⟩ (.int .u8 (bits BinOp.xor IntKind.u8 (u.toNat : Int) 1))) g r2 xs g2 rb2 xs (0 + xs.length) xs.length (some ⟨kx, 0, none⟩) xs.length xs.length) := by rw [hu']; exact hnext u'
            have hlt2 : (k' : Int) < xs.length := by omega
            clear hB S5 hnext hu'
            go_wp2
            go_roundw
            case rel => exact ⟨k' + 1, by go_num, by omega, HN'⟩
            case measure => simp [intOf]; omega
          · have hlt2 : ¬ (k' : Int) < xs.length := by omega
            clear S5
            go_wp2_with fail
            refine (byte_any g r2 xs 7 7 rfl wr hB.out.both.wt (by have := HM.out; unfold Hid; omega)).mono ?_
            rintro e w6 ⟨rfl, h6⟩
            have hb := hB.out.both
            obtain ⟨b6, r6, t6, hr6⟩ := h6.below hb.be.size hb.n0 (fun k hk => (hb.r0 k hk).1)
            have S6 : Hid (Below w.heap.size w w6 ∧ Wtr w6 g r6 (xs ++ [7])) := ⟨hb.be.trans b6, t6⟩
            clear h6 hb b6 t6 hr6 hB
            go_wp2_with fail
            refine (lays_any w6 ((S6.out.1.cell HG.out.lt).trans HG.out)).mono ?_
            rintro e w7 ⟨rfl, h7⟩
            have S7 : Hid (Below w.heap.size w w7 ∧ Wtr w7 g r6 (xs ++ [7])) := ⟨S6.out.1.trans (h7.mono S6.out.1.size), S6.out.2.keep (Fr.ofBelow (S := fun _ => False) h7) (fun h => h) (fun _ _ h => h)⟩
            clear h7 S6
            go_wp2_with fail
            refine (bytes_any g r6 (xs ++ [7]) w7 S7.out.2 (by have := HM.out; simp; omega)).mono ?_
            rintro e w8 ⟨rfl, h8⟩
            have S8 : Hid (Below w.heap.size w w8) := by rw [h8]; exact S7.out.1.alloc S7.out.1.size _
            have hs8 : (convert 55 9 (.slice (some ⟨w7.heap.size, 0, none⟩) (xs ++ [7]).length (xs ++ [7]).length)).run Tryd.prog w8 = .ok (.string ⟨(xs ++ [7]).toArray⟩) w8 := conv_str (xs ++ [7]) _ _ w8 (rowObj_row (by rw [h8]; exact heap_alloc_new w7 _)) (fun h => by cases h)
            have el : (xs ++ [(7 : UInt8)]).length = xs.length + 1 := by simp
            rw [el] at hs8
            clear el
            clear h8 S7
            go_wp2
            go_ret
            exact ⟨congrArg (fun b => Ending.returned (Value.bool b)) (cat7 xs), S8⟩
end Go.Proofs.YtcmmjkkpjclfgaaDoor
