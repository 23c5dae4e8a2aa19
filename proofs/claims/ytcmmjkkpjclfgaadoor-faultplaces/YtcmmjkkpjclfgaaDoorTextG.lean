import Derived.Test.YtcmmjkkpjclfgaaDoorRText
import Derived.Shelf.Strconv.AppendIntPublic10
import Derived.Deep.RegionHeld3
import Derived.Deep.DeepCutAuto
namespace Go.Proofs.YtcmmjkkpjclfgaaDoor
open Go.RowKit Go.Lib Go.Shelf

def Tryd.laysAI_ren : Go.Shelf.Ren := ⟨fun | 176 => 73 | 249 => 104 | 288 => 114 | 283 => 117 | 284 => 118 | 285 => 119 | 286 => 120 | 129 => 122 | 317 => 121 | 318 => 123 | 319 => 124 | 320 => 125 | 337 => 126 | 338 => 127 | n => n, fun | 37 => 55 | 2 => 2 | 3 => 3 | 53 => 52 | 4 => 4 | 9 => 9 | 171 => 181 | 0 => 0 | 173 => 184 | 212 => 187 | 51 => 188 | 5 => 5 | 20 => 20 | 213 => 189 | 46 => 137 | 232 => 192 | 233 => 193 | n => n, fun | 17 => 1 | 18 => 2 | 19 => 3 | n => n⟩
theorem Tryd.laysAI : Go.Proofs.LaysM.n176 Tryd.prog Tryd.laysAI_ren := {
  mixed := by kernel_rfl
  f129 := Tryd.func122.trans (congrArg some (by kernel_rfl))
  f176 := Tryd.func73.trans (congrArg some (by kernel_rfl))
  f249 := Tryd.func104.trans (congrArg some (by kernel_rfl))
  f283 := Tryd.func117.trans (congrArg some (by kernel_rfl))
  f284 := Tryd.func118.trans (congrArg some (by kernel_rfl))
  f285 := Tryd.func119.trans (congrArg some (by kernel_rfl))
  f286 := Tryd.func120.trans (congrArg some (by kernel_rfl))
  f288 := Tryd.func114.trans (congrArg some (by kernel_rfl))
  f317 := Tryd.func121.trans (congrArg some (by kernel_rfl))
  f318 := Tryd.func123.trans (congrArg some (by kernel_rfl))
  f319 := Tryd.func124.trans (congrArg some (by kernel_rfl))
  f320 := Tryd.func125.trans (congrArg some (by kernel_rfl))
  f337 := Tryd.func126.trans (congrArg some (by kernel_rfl))
  f338 := Tryd.func127.trans (congrArg some (by kernel_rfl))
  t0 := Tryd.underlying0
  a0 := Tryd.isAgg0
  z0 := Tryd.sizeOf0
  v0 := Tryd.zeroValue0
  t2 := Tryd.underlying2
  a2 := Tryd.isAgg2
  z2 := Tryd.sizeOf2
  v2 := Tryd.zeroValue2
  t3 := Tryd.underlying3
  a3 := Tryd.isAgg3
  z3 := Tryd.sizeOf3
  v3 := Tryd.zeroValue3
  t4 := Tryd.underlying4
  a4 := Tryd.isAgg4
  z4 := Tryd.sizeOf4
  v4 := Tryd.zeroValue4
  t5 := Tryd.underlying5
  a5 := Tryd.isAgg5
  z5 := Tryd.sizeOf5
  v5 := Tryd.zeroValue5
  t9 := Tryd.underlying9
  a9 := Tryd.isAgg9
  z9 := Tryd.sizeOf9
  v9 := Tryd.zeroValue9
  t20 := Tryd.underlying20
  a20 := Tryd.isAgg20
  z20 := Tryd.sizeOf20
  v20 := Tryd.zeroValue20
  t37 := Tryd.underlying55
  a37 := Tryd.isAgg55
  z37 := Tryd.sizeOf55
  v37 := Tryd.zeroValue55
  t46 := Tryd.underlying137
  a46 := Tryd.isAgg137
  z46 := Tryd.sizeOf137
  v46 := Tryd.zeroValue137
  t51 := Tryd.underlying188
  a51 := Tryd.isAgg188
  z51 := Tryd.sizeOf188
  v51 := Tryd.zeroValue188
  t53 := Tryd.underlying52
  a53 := Tryd.isAgg52
  z53 := Tryd.sizeOf52
  v53 := Tryd.zeroValue52
  t171 := Tryd.underlying181
  a171 := Tryd.isAgg181
  z171 := Tryd.sizeOf181
  v171 := Tryd.zeroValue181
  t173 := Tryd.underlying184
  a173 := Tryd.isAgg184
  z173 := Tryd.sizeOf184
  v173 := Tryd.zeroValue184
  t212 := Tryd.underlying187
  a212 := Tryd.isAgg187
  z212 := Tryd.sizeOf187
  v212 := Tryd.zeroValue187
  t213 := Tryd.underlying189
  a213 := Tryd.isAgg189
  z213 := Tryd.sizeOf189
  t232 := Tryd.underlying192
  a232 := Tryd.isAgg192
  z232 := Tryd.sizeOf192
  v232 := Tryd.zeroValue192
  t233 := Tryd.underlying193
  a233 := Tryd.isAgg193
  z233 := Tryd.sizeOf193
  v233 := Tryd.zeroValue193
  g17 := by kernel_rfl
  g18 := by kernel_rfl
  g19 := by kernel_rfl
  i0 := by kernel_rfl
  i2 := by kernel_rfl
  i3 := by kernel_rfl
  i4 := by kernel_rfl
  i5 := by kernel_rfl
  i9 := by kernel_rfl
  i20 := by kernel_rfl
  i37 := by kernel_rfl
  i46 := by kernel_rfl
  i51 := by kernel_rfl
  i53 := by kernel_rfl
  i171 := by kernel_rfl
  i173 := by kernel_rfl
  i212 := by kernel_rfl
  i232 := by kernel_rfl
  i233 := by kernel_rfl
  m17 := by kernel_rfl
  m18 := by kernel_rfl
  m19 := by kernel_rfl }
def Tab (w : World) : Prop := TabIs Tryd.prog w "internal/strconv.uint64pow10" .u64 pow10Tab
theorem appI_any (B n : Nat) (i : Int) (h : In64 i) (sv : Value) (xs : List Value) (w : World) (hown : w.ownsRow B 5 1 sv n xs) (hBw : B ≤ w.heap.size) (hlim : n + 21 ≤ 140737488355328)
    (htab : TabBelow Tryd.prog B w "internal/strconv.uint64pow10" .u64 pow10Tab) :
    Calls Tryd.prog 73 #[sv, .int .i64 i, .int .i64 10] w fun e w' => ∃ v', e = .returned v' ∧ w'.ownsRow B 5 1 v' (n + (itoa i).length) (xs ++ byteCells (itoa i)) ∧ Below B w w' ∧ OthersKept 5 none w w' :=
  Any.strconv_AppendInt_10 Tryd.laysAI B n i h.1 h.2 sv xs w hown hBw hlim htab

/-- at a round's head: the line is owned, the places can be read -/
structure TextG (w wr : World) (ps : List Int) (ap : Option Addr) (cp : Nat) (a : Option Addr) (n c : Nat) (bs : List UInt8) : Prop where
  own : n = bs.length ∧ wr.ownsRow w.heap.size 5 1 (.slice a n c) n (B8 bs)
  path : wr.ownsRow 0 3 1 (.slice ap ps.length cp) ps.length (I64 ps)
  fr : Fr (fun _ => False) w wr
theorem TextG.step {w wr w2 : World} {ps : List Int} {ap a a' : Option Addr} {cp n n' c c' : Nat} {bs cs : List UInt8} (h : TextG w wr ps ap cp a n c bs) (hg : Grew wr w2 (.slice a n c)) (hn : n' = cs.length) (ho : w2.ownsRow w.heap.size 5 1 (.slice a' n' c') n' (B8 cs)) : TextG w w2 ps ap cp a' n' c' cs :=
  ⟨⟨hn, ho⟩, ownsRow_heap h.path (fun k hk => hg.block k (h.path.lt k hk).2 (row5_ne3 h.own.2 h.path k hk)), h.fr.trans' hg (fun _ _ h => h) (fun j hj e => by have := (h.own.2.lt j e.symm).1; omega)⟩
theorem TextG.app {w wr w2 : World} {ps : List Int} {ap a a' : Option Addr} {cp n n' c c' : Nat} {bs cs : List UInt8} (h : TextG w wr ps ap cp a n c bs) (hb : Below w.heap.size wr w2) (hk : OthersKept 5 none wr w2) (hn : n' = cs.length) (ho : w2.ownsRow w.heap.size 5 1 (.slice a' n' c') n' (B8 cs)) : TextG w w2 ps ap cp a' n' c' cs := by
  refine ⟨⟨hn, ho⟩, ?_, ?_⟩
  · refine ⟨h.path.1, ?_⟩
    rcases h.path.2 with ⟨e1, e2⟩ | ⟨g, cap, cur, e, h1, h2, h3⟩
    · exact .inl ⟨e1, e2⟩
    · exact .inr ⟨g, cap, cur, e, h1, hk g _ h2 (by simp) (fun c fz e => by simp at e), h3⟩
  · exact ⟨hb.os.trans h.fr.os, hb.tape.trans h.fr.tape, hb.output.trans h.fr.output, Nat.le_trans h.fr.size hb.size, fun k hk _ => (hb.block k hk).trans (h.fr.block k hk (fun h => h))⟩
theorem TextG.alloc {w wr : World} {ps : List Int} {ap a : Option Addr} {cp n c : Nat} {bs : List UInt8} (h : TextG w wr ps ap cp a n c bs) (o : Obj) : TextG w (wr.alloc o) ps ap cp a n c bs :=
  ⟨⟨h.own.1, h.own.2.alloc o⟩, h.path.alloc o, h.fr.alloc o⟩
theorem TextG.quiet {w wr w2 : World} {ps : List Int} {ap a : Option Addr} {cp n c : Nat} {bs : List UInt8} (h : TextG w wr ps ap cp a n c bs) (f : Fr (fun _ => False) wr w2) : TextG w w2 ps ap cp a n c bs :=
  ⟨⟨h.own.1, ownsRow_heap h.own.2 (fun k hk => f.block k (h.own.2.lt k hk).2 (fun h => h))⟩, ownsRow_heap h.path (fun k hk => f.block k (h.path.lt k hk).2 (fun h => h)), h.fr.trans f⟩
theorem TextG.place {w wr : World} {ps : List Int} {ap a : Option Addr} {cp n c k : Nat} {bs : List UInt8} (h : TextG w wr ps ap cp a n c bs) (hk : k < ps.length) : ∃ kp, ap = some ⟨kp, 0, none⟩ ∧ wr.cell? ⟨kp, k, none⟩ = some (.int .i64 (ps.getD k 0)) := by
  rcases h.path.2 with ⟨_, e⟩ | ⟨g, cap, cur, e, _⟩
  · omega
  · have e' := e
    simp only [Value.slice.injEq] at e'
    obtain ⟨rfl, _, rfl⟩ := e'
    refine ⟨g, rfl, ?_⟩
    rw [h.path.cellAt k (by omega)]
    simp [I64, hk]
theorem TextG.below {w wr : World} {ps : List Int} {ap a : Option Addr} {cp n c : Nat} {bs : List UInt8} (h : TextG w wr ps ap cp a n c bs) : Below w.heap.size w wr := h.fr.below (Nat.le_refl _) (fun _ h => h.elim)

set_option maxRecDepth 100000 in
set_option maxHeartbeats 1000000 in
theorem text_any (ps : List Int) (k0 : Int) (v : Value) (w : World) (hG : Glob w) (hT : Tab w) (h : Wraps w ps v (.iface 29 (.int .i64 k0))) (hl : ps.length ≤ 48) (hb : ∀ p ∈ ps, In64 p) :
    Calls Tryd.prog 20 #[v] w fun e w' => e = .returned (.string ⟨(textOf k0 ps).toArray⟩) ∧ Fr (fun _ => False) w w' := by
  have HG : Hid (Glob w ∧ Wraps w ps v (.iface 29 (.int .i64 k0)) ∧ TabBelow Tryd.prog w.heap.size w "internal/strconv.uint64pow10" .u64 pow10Tab ∧ ∀ p ∈ ps, In64 p) := ⟨hG, h, tabBelow_of_tabIs hT, hb⟩
  have C := path_any (noPlace_errno k0) ps v w hG h (by omega)
  obtain ⟨Tv, xv, rfl⟩ := h.iface
  obtain ⟨i0, hi, hz0, hz1, hz2⟩ := info_parts Tryd.info5
  have hl' : (ps.length : Int) ≤ 48 := by omega
  clear hG h hT hb
  go_enter Tryd.func20, Tryd.ntmps20
  go_wp2_with fail
  refine C.mono ?_
  rintro e w1 ⟨ap, cp, rfl, ho, hf, hfr⟩
  have S1 : Hid (TextG w w1 ps ap cp none 0 0 []) := ⟨⟨rfl, World.ownsRow_nil _ _ _ _⟩, ho, hf⟩
  clear C ho hf hfr
  go_wp2_with fail
  go_loopg [3, 4, 5, 9] ps.length (fun n ln i pl ix wr => ∃ k : Nat, n = ps.length - k ∧ k ≤ ps.length ∧ ix = .int .i64 k ∧ ∃ a c, ln = .slice a (line ps k).length c ∧ Hid (TextG w wr ps ap cp a (line ps k).length c (line ps k)))
  case atStart => exact ⟨0, rfl, Nat.zero_le _, rfl, none, 0, rfl, S1⟩
  case round =>
    obtain ⟨k, rfl, hk, rfl, a, c, rfl, hS⟩ := hrel
    have hll : (line ps k).length ≤ 1056 := by have := line_len HG.out.2.2.2 k; omega
    have HLL : Hid ((line ps k).length ≤ 1056) := hll
    by_cases hkl : k < ps.length
    · obtain ⟨x, hx⟩ : ∃ x, x = ps.getD k 0 := ⟨_, rfl⟩
      obtain ⟨kp, rfl, hc⟩ := hS.out.place hkl
      rw [← hx] at hc
      have hI : In64 x := by rw [hx]; exact getD_in HG.out.2.2.2 k
      have HX : Hid (x = ps.getD k 0 ∧ In64 x) := ⟨hx, hI⟩
      have k1 : (k : Int) < ps.length := by omega
      have k0' : (0 : Int) ≤ k := by omega
      have hBw := hS.out.fr.size
      clear hx S1 hI
      by_cases h0 : 0 < k
      · have h0' : (0 : Int) < k := by omega
        have hown := hS.out.own.2
        have HN : Hid (line ps (k + 1) = line ps k ++ [46] ++ itoa x) := by rw [HX.out.1]; exact line_next ps h0
        generalize line ps k = ln at *
        go_wp2_with (at_builtin; refine wpList_append_own _ rfl (.tmp 16) (.tmp 17) 55 rfl w.heap.size 5 i0 (.int .u8 0) 1 1 Tryd.underlying55 hi hz0 hz1 hz2 rfl (by decide) (.slice a ln.length c) ln.length (B8 ln) rfl (hown.alloc _) ⟨wr.heap.size, 0, none⟩ 1 1 [.int .u8 46] rfl rfl (cell_one_new _ _ _) (one_cell _) ?c3 ?c4 ?c5 ?_)
        case c3 => unfold maxLen; have := HLL.out; omega
        case c4 => have := HLL.out; omega
        case c5 => simp; omega
        intro v' w2 hown' hgrow hnil
        obtain ⟨a2, c2, rfl⟩ := ownsRow_slice hown'
        have el : (ln ++ [46]).length = ln.length + 1 := by simp
        have S2 : Hid (TextG w w2 ps (some ⟨kp, 0, none⟩) cp a2 (ln ++ [46]).length c2 (ln ++ [46])) := by
          rw [b8_46] at hown'
          refine (hS.out.alloc _).step (grew_of hgrow) rfl ?_
          rw [el]; exact hown'
        have D := appI_any w.heap.size (ln ++ [46]).length x HX.out.2 (.slice a2 (ln ++ [46]).length c2) (B8 (ln ++ [46])) w2 S2.out.own.2 S2.out.fr.size (by rw [el]; have := HLL.out; omega) (HG.out.2.2.1.on S2.out.below)
        rw [el] at D
        clear el hown' hgrow hnil hown hi hll
        go_wp2_with fail
        refine D.mono ?_
        rintro e w3 ⟨v3, rfl, ho3, hb3, hk3⟩
        obtain ⟨a3, c3, rfl⟩ := ownsRow_slice ho3
        have e2 : ln.length + 1 + (itoa x).length = (line ps (k + 1)).length := by rw [HN.out]; simp; omega
        have S3 : Hid (TextG w w3 ps (some ⟨kp, 0, none⟩) cp a3 (line ps (k + 1)).length c3 (line ps (k + 1))) := by
          rw [show byteCells (itoa x) = B8 (itoa x) from rfl, ← B8_append, ← HN.out, e2] at ho3
          exact S2.out.app hb3 hk3 rfl ho3
        rw [e2]
        clear D ho3 hb3 hk3 S2 hS e2
        go_wp2
        go_roundg (ps.length - (k + 1))
        case rel => exact ⟨k + 1, rfl, by omega, by go_num, a3, c3, rfl, S3⟩
        case measure => omega
      · obtain rfl : k = 0 := by omega
        have H0 : Hid (TextG w wr ps (some ⟨kp, 0, none⟩) cp a 0 c []) := hS
        have HN : Hid (line ps (0 + 1) = itoa x) := by rw [HX.out.1]; exact line_first ps
        have D := appI_any w.heap.size 0 x HX.out.2 (.slice a 0 c) (B8 []) wr H0.out.own.2 H0.out.fr.size (by omega) (HG.out.2.2.1.on H0.out.below)
        have e0 : (line ps 0).length = 0 := rfl
        rw [e0]
        have n0 : ¬ (0 : Int) < ((0 : Nat) : Int) := by omega
        clear hS e0 hi hll HLL
        go_wp2_with fail
        refine D.mono ?_
        rintro e w3 ⟨v3, rfl, ho3, hb3, hk3⟩
        obtain ⟨a3, c3, rfl⟩ := ownsRow_slice ho3
        have e2 : 0 + (itoa x).length = (line ps (0 + 1)).length := by rw [HN.out]; simp
        have S3 : Hid (TextG w w3 ps (some ⟨kp, 0, none⟩) cp a3 (line ps (0 + 1)).length c3 (line ps (0 + 1))) := by
          rw [show byteCells (itoa x) = B8 (itoa x) from rfl, ← B8_append, e2] at ho3
          refine H0.out.app hb3 hk3 rfl ?_
          rw [HN.out] at ho3 ⊢
          exact ho3
        rw [e2]
        clear D ho3 hb3 hk3 H0 e2
        go_wp2
        go_roundg (ps.length - (0 + 1))
        case rel => exact ⟨0 + 1, rfl, by omega, by go_num, a3, c3, rfl, S3⟩
        case measure => omega
    · obtain rfl : k = ps.length := by omega
      clear S1 hk hkl
      go_upto_if 25 with fail
      go_cut [3] (fun v wx => ∃ a c, v = .slice a (headL ps).length c ∧ Hid (TextG w wx ps ap cp a (headL ps).length c (headL ps)))
      case first =>
        by_cases h0 : ps.length = 0
        · have HE : Hid (line ps ps.length = [] ∧ headL ps = []) := ⟨by rw [h0]; rfl, by unfold headL; rw [if_pos h0]⟩
          rw [HE.out.1]
          have H0 : Hid (TextG w wr ps ap cp a 0 c []) := by have := hS; rw [HE.out.1] at this; exact this
          clear hll HLL hS
          go_wp2
          go_meet
          case rel => exact ⟨a, c, by rw [HE.out.2], by rw [HE.out.2]; exact H0⟩
        · have HE : Hid (headL ps = line ps ps.length ++ [32]) := by unfold Hid headL; rw [if_neg h0]
          have hpos := line_pos ps (k := ps.length) (by omega)
          have hown := hS.out.own.2
          have hBw := hS.out.fr.size
          generalize line ps ps.length = ln at *
          have hpos' : (0 : Int) < ln.length := by omega
          go_wp2_with (at_builtin; refine wpList_append_own _ rfl (.tmp 26) (.tmp 27) 55 rfl w.heap.size 5 i0 (.int .u8 0) 1 1 Tryd.underlying55 hi hz0 hz1 hz2 rfl (by decide) (.slice a ln.length c) ln.length (B8 ln) rfl (hown.alloc _) ⟨wr.heap.size, 0, none⟩ 1 1 [.int .u8 32] rfl rfl (cell_one_new _ _ _) (one_cell _) ?c3 ?c4 ?c5 ?_)
          case c3 => unfold maxLen; have := HLL.out; omega
          case c4 => have := HLL.out; omega
          case c5 => simp; omega
          intro v' w2 hown' hgrow hnil
          obtain ⟨a2, c2, rfl⟩ := ownsRow_slice hown'
          have el : (ln ++ [32]).length = ln.length + 1 := by simp
          have S2 : Hid (TextG w w2 ps ap cp a2 (ln ++ [32]).length c2 (ln ++ [32])) := by
            rw [b8_32] at hown'
            refine (hS.out.alloc _).step (grew_of hgrow) rfl ?_
            rw [el]; exact hown'
          rw [← el]
          clear el hown' hgrow hnil hown hS
          go_wp2
          go_meet
          case rel => exact ⟨a2, c2, by rw [HE.out], by rw [HE.out]; exact S2⟩
      case rest =>
        obtain ⟨a2, c2, rfl, S2⟩ := hcut
        have hhl : (headL ps).length ≤ 1057 := by have := headL_len HG.out.2.2.2; omega
        have HHL : Hid ((headL ps).length ≤ 1057) := hhl
        clear hS hll HLL hhl
        have HT : Hid (textOf k0 ps = headL ps ++ nameL k0) := rfl
        have hnl := nameL_len k0
        have HNL : Hid ((nameL k0).length ≤ 8) := hnl
        have N := fun w => err_any k0 w
        generalize headL ps = hd at *
        generalize nameL k0 = nl at *
        clear hnl
        go_wp2_with fail
        refine (kind_any ps (.iface Tv xv) k0 _ (HG.out.1.keep S2.out.fr (fun h => h)) (HG.out.2.1.keep (fun k _ hk => S2.out.fr.block k (heap_lt hk) (fun h => h))).err).mono ?_
        rintro e w3 ⟨rfl, hf3⟩
        have S3 : Hid (TextG w w3 ps ap cp a2 hd.length c2 hd) := S2.out.quiet hf3
        clear hf3 S2
        go_wp2_with fail
        refine (N w3).mono ?_
        rintro e w4 ⟨rfl, hw4⟩
        obtain rfl := hw4
        clear N
        have hown3 := S3.out.own.2
        have hB3 := S3.out.fr.size
        go_wp2_with (at_builtin; refine wpList_append_own_string _ rfl (.tmp 29) (.tmp 32) 55 9 rfl w.heap.size 5 i0 Tryd.underlying55 Tryd.underlying9 hi hz0 hz1 hz2 (.slice a2 hd.length c2) hd.length (B8 hd) rfl hown3 ⟨nl.toArray⟩ rfl ?c6 ?c7 hB3 ?_)
        case c6 => have := HNL.out; have := HHL.out; unfold maxLen; simp [ByteArray.size]; omega
        case c7 => have := HNL.out; have := HHL.out; simp [ByteArray.size]; omega
        intro v' w5 hown' hgrow hnil
        obtain ⟨a5, c5, rfl⟩ := ownsRow_slice hown'
        have el : hd.length + nl.length = (hd ++ nl).length := by simp
        rw [el] at hown'
        rw [el]
        have S5 : Hid (TextG w w5 ps ap cp a5 (hd ++ nl).length c5 (hd ++ nl)) := by
          rw [strCells_toArray, show byteCells nl = B8 nl from rfl, ← B8_append] at hown'
          exact S3.out.step (grew_of hgrow) rfl hown'
        have hst : (convert 55 9 (.slice a5 (hd ++ nl).length c5)).run Tryd.prog w5 = .ok (.string ⟨(hd ++ nl).toArray⟩) w5 := by
          have ho := S5.out.own.2
          refine conv_str (hd ++ nl) a5 c5 w5 ?_ ?_
          · rcases ho.2 with ⟨h, h1⟩ | ⟨g, cap, cur, h, _⟩
            · simp only [Value.slice.injEq] at h
              exact .inl ⟨h.1, by rw [List.eq_nil_of_length_eq_zero h1]; rfl⟩
            · have e' := h
              simp only [Value.slice.injEq] at e'
              exact .inr ⟨_, e'.1, ho.cells (g := g) (by rw [h]; rfl)⟩
          · intro e
            subst e
            rcases ho.2 with ⟨h1, h2⟩ | ⟨g, cap, cur, h1, _⟩
            · simp only [Value.slice.injEq] at h1; exact h1.2.2
            · cases h1
        clear hown' hgrow hnil hown3 S3 hi el
        generalize hd ++ nl = tx at *
        go_wp2
        go_ret
        exact ⟨by rw [HT.out]; rfl, S5.out.fr⟩
end Go.Proofs.YtcmmjkkpjclfgaaDoor
