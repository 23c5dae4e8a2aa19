import Derived.Test.YtidhcmhheohciaaDoorG03
import Derived.RegionTactic
import Derived.ChangeAlike
import Derived.BigRegion
import Derived.Laws.OwnMore
namespace Go.Proofs.YtidhcmhheohciaaDoor
open Go.RowKit
theorem plain_made (w : World) (m : Nat) (hm : m ≤ 1000) : (Instr.makeSlice 33 (.int .i64 m) (.int .i64 m)).run Tryd.prog w = .ok (.slice (some ⟨w.heap.size, 0, none⟩) m m) (w.alloc (rowObj (List.replicate m 0))) := by
  obtain ⟨i0, hi, hz0, hz1, hz2⟩ := info_parts Tryd.info5
  have := run_make (P := Tryd.prog) w 33 5 i0 (.int .u8 0) Tryd.underlying33 hi hz0 .i64 .i64 m m (by omega) (by omega) (by rw [hz2]; omega) (by omega)
  rw [hz1, Nat.mul_one, Int.toNat_natCast] at this
  rw [this]
  have e : (Obj.cells (madeCells (Value.int .u8 0).cells m) 5) = rowObj (List.replicate m 0) := by
    have h : madeCells (Value.int .u8 0).cells m = (B8 (List.replicate m 0)).toArray := by
      apply Array.toList_inj.1
      rw [show (Value.int .u8 0).cells = #[Value.int .u8 0] from rfl, toList_madeCells_one]
      simp [B8]
    rw [h]; rfl
  rw [e]
/-- the row at block g of bytes b -/
def RowB (w : World) (g : Nat) (b : List UInt8) : Prop := w.heap[g]? = some (Obj.cells (B8 b).toArray 5 (0, 0))
theorem RowB.cell {w : World} {g : Nat} {b : List UInt8} (h : RowB w g b) {i : Nat} (hi : i < b.length) : w.cell? ⟨g, i, none⟩ = some (.int .u8 ((b.getD i 0).toNat : Int)) := by
  have h' : w.heap[g]? = some (Obj.cells (B8 b).toArray 5 (0, 0)) := h
  simp only [World.cell?, h']
  simp [B8, hi]
theorem RowB.fz {w : World} {g : Nat} {b : List UInt8} (h : RowB w g b) (i : Nat) : w.frozen? ⟨g, i, none⟩ = false := by
  have h' : w.heap[g]? = some (Obj.cells (B8 b).toArray 5 (0, 0)) := h
  simp [World.frozen?, h']
theorem RowB.set {w : World} {g : Nat} {b : List UInt8} (h : RowB w g b) (i : Nat) (u : UInt8) : RowB (w.setCell ⟨g, i, none⟩ (.int .u8 (u.toNat : Int))) g (b.set i u) := by
  have h' : w.heap[g]? = some (Obj.cells (B8 b).toArray 5 (0, 0)) := h
  unfold RowB
  simp [World.setCell, Array.getElem?_modify, h', B8, List.map_set]
theorem or_bit_fin : ∀ (x : Fin 256) (j : Fin 8), bits BinOp.or IntKind.u8 (x.val : Int) ((2 ^ j.val) % 256) = ((UInt8.ofNat (x.val ||| 2 ^ j.val)).toNat : Int) := by decide +kernel
theorem or_bit (c : UInt8) (j : Nat) (hj : j < 8) : bits BinOp.or IntKind.u8 (c.toNat : Int) ((2 ^ j) % 256) = ((UInt8.ofNat (c.toNat ||| 2 ^ j)).toNat : Int) := or_bit_fin ⟨c.toNat, c.toNat_lt⟩ ⟨j, hj⟩
set_option maxRecDepth 100000 in
set_option maxHeartbeats 4000000 in
theorem plain_any (n : Nat) (xs : List Int) (a : Option Addr) (c : Nat) (w : World) (hr : Ri w a xs) (hc : xs.length ≤ 100000) (hn : n ≤ 4096) (hR : rightL n 0 xs = true) :
    Calls Tryd.prog 33 #[.int .i64 n, .slice a xs.length c] w fun e w' => e = .returned (.slice (some ⟨w.heap.size, 0, none⟩) (plainB ((n + 7) / 8) xs).length (plainB ((n + 7) / 8) xs).length) ∧ RowB w' w.heap.size (plainB ((n + 7) / 8) xs) ∧ Below w.heap.size w w' := by
  have HR : Hid (Ri w a xs) := hr
  have HG : Hid (rightL n 0 xs = true) := hR
  have hp := psize_any n w hn
  have hm : (n + 7) / 8 ≤ 1000 := by omega
  have hm2 : Hid ((n : Int) ≤ 8 * ((n + 7) / 8 : Nat)) := by unfold Hid; omega
  rw [plainB_len]
  unfold plainB
  clear hr hR
  generalize (n + 7) / 8 = m at *
  have hmk := fun w => plain_made w m hm
  go_enter Tryd.func33, Tryd.ntmps33
  go_wp2_with (go_at_call 41; refine hp.mono ?_; rintro e w' ⟨h, rfl⟩; obtain rfl := h.symm)
  go_loopw [13] (fun s13 wr => ∃ k : Nat, s13 = .int .i64 k ∧ k ≤ xs.length ∧ Hid (RowB wr w.heap.size (foldB (List.replicate m 0) (xs.take k)) ∧ Below w.heap.size w wr)) (fun s13 _ => xs.length - (intOf s13).toNat)
  case atStart => exact ⟨0, rfl, Nat.zero_le _, heap_alloc_new w _, (Below.refl _ _).alloc (Nat.le_refl _) _⟩
  case round =>
    obtain ⟨k, rfl, hk, h4⟩ := hrel
    by_cases hk2 : k = xs.length
    · subst hk2
      go_wp2
      go_ret
      have := h4.out
      rw [List.take_length] at this
      exact ⟨rfl, this⟩
    · have hlt : k < xs.length := by omega
      have hlt' : (k : Int) < xs.length := by omega
      obtain ⟨ab, ao, rfl, hcell⟩ := (HR.out.keep' h4.out.2).at hlt
      have hx := right_mem HG.out (xs.getD k 0) (by simp [hlt])
      have HT : Hid (foldB (List.replicate m 0) (xs.take (k + 1)) = setB (foldB (List.replicate m 0) (xs.take k)) (xs.getD k 0).toNat) := by
        unfold Hid foldB
        rw [List.take_succ_eq_append_getElem hlt, show xs[k] = xs.getD k 0 by simp [hlt], List.foldl_append]
        rfl
      have hlen : (foldB (List.replicate m 0) (xs.take k)).length = m := by rw [foldB_len]; simp
      generalize hb5 : foldB (List.replicate m 0) (xs.take (k + 1)) = b' at *
      have HT5 := hide hb5
      clear hb5
      generalize foldB (List.replicate m 0) (xs.take k) = b at *
      generalize xs.getD k 0 = x at *
      obtain ⟨y, rfl⟩ : ∃ y : Nat, x = (y : Int) := ⟨x.toNat, by omega⟩
      have hy : y / 8 < m := by have := hm2.out; omega
      obtain ⟨q, hq⟩ : ∃ q, q = y / 8 := ⟨_, rfl⟩
      obtain ⟨j, hj⟩ : ∃ j, j = y % 8 := ⟨_, rfl⟩
      have e1 : (y : Int) / 8 = q := by omega
      have e2 : (y : Int) % 8 = j := by omega
      have hq0 : (0 : Int) ≤ q := by omega
      have hq1 : (q : Int) < m := by omega
      have hj0 : (0 : Int) ≤ j := by omega
      have hj1 : (j : Int) < 8 := by omega
      have hy0 : (0 : Int) ≤ y := by omega
      have hy1 : (y : Int) ≤ 4096 := by omega
      have hcb := h4.out.1.cell (i := q) (by omega)
      have hfz := h4.out.1.fz q
      have HS := hide (h4.out.1.set q (UInt8.ofNat ((b.getD q 0).toNat ||| 2 ^ j)))
      have HB : Hid (Below w.heap.size w wr) := h4.out.2
      have HO := hide (or_bit (b.getD q 0) j (by omega))
      have HBB := HB.out.setCell (p := ⟨w.heap.size, q, none⟩) (Nat.le_refl _) (.int .u8 ((UInt8.ofNat ((b.getD q 0).toNat ||| 2 ^ j)).toNat : Int))
      replace HBB := hide HBB.drew
      have HT2 : Hid (b' = b.set q (UInt8.ofNat ((b.getD q 0).toNat ||| 2 ^ j))) := by
        unfold Hid; rw [HT.out, setB, Int.toNat_natCast, hq, hj]
      have HY := hide (And.intro hq hj)
      clear h4 hq hj hx hlen HT hy
      generalize UInt8.ofNat ((b.getD q 0).toNat ||| 2 ^ j) = u at *
      generalize (b.getD q 0) = cb at *
      go_wp2
      go_region
      rw [HO.out]
      go_wp2
      go_round
      case rel => exact ⟨k + 1, by go_num, by omega, by unfold Hid; rw [HT5.out, HT2.out]; exact ⟨HS.out, HBB.out⟩⟩
      case measure => simp [intOf]; omega
end Go.Proofs.YtidhcmhheohciaaDoor
namespace Go.Proofs.YtidhcmhheohciaaDoor
open Go.RowKit
theorem right_len {n : Int} {xs : List Int} : ∀ {l : Int}, rightL n l xs = true → l ≤ n → (xs.length : Int) ≤ n - l := by
  induction xs with
  | nil => intro l _ h; simp; omega
  | cons y t ih =>
    intro l h hl
    rw [rightL] at h
    split at h
    · exact absurd h (by simp)
    · have := ih h (by omega)
      rw [List.length_cons]; omega
/-- the numbers of a set's runs -/
def runsA (xs : List Int) : List Nat := (runsG xs.length 0 xs).length / 2 :: runsG xs.length 0 xs
def gapsA (xs : List Int) : List Nat := xs.length :: gapL 0 xs
/-- a set's bytes, laid in a way -/
def wayB (n : Nat) (xs : List Int) (k : Nat) : List UInt8 :=
  if k = 0 then 0 :: plainB ((n + 7) / 8) xs else if k = 1 then 1 :: lebs (gapsA xs) else 2 :: lebs (runsA xs)
def waySz (n : Nat) (xs : List Int) (k : Nat) : Nat :=
  if k = 0 then 1 + (n + 7) / 8 else if k = 1 then 1 + lebL (gapsA xs) else 1 + lebL (runsA xs)
def wayOf (n : Nat) (xs : List Int) : Nat := (wl (waySz n xs) 2).1
theorem gapsA_lt {n : Nat} {xs : List Int} (hn : n ≤ 4096) (h : rightL n 0 xs = true) : ∀ x ∈ gapsA xs, x < 18446744073709551616 := by
  have hl := right_len h (by omega)
  intro x hx
  rcases List.mem_cons.1 hx with rfl | hx
  · omega
  · exact gapL_lt n (by omega) xs 0 (Int.le_refl _) h x hx
theorem runsA_lt {n : Nat} {xs : List Int} (hn : n ≤ 4096) (h : rightL n 0 xs = true) : ∀ x ∈ runsA xs, x < 18446744073709551616 := by
  have hl := right_len h (by omega)
  have hr := runsG_len xs.length 0 xs
  intro x hx
  rcases List.mem_cons.1 hx with rfl | hx
  · omega
  · exact runsG_lt n (by omega) xs.length 0 xs (Int.le_refl _) (by omega) h x hx
theorem gapsA_len (xs : List Int) : (gapsA xs).length = xs.length + 1 := by simp [gapsA, gapL_len]
theorem runsA_len (xs : List Int) : (runsA xs).length ≤ 2 * xs.length + 1 := by have := runsG_len xs.length 0 xs; simp [runsA]; omega
theorem waySz_len {n : Nat} {xs : List Int} (hn : n ≤ 4096) (h : rightL n 0 xs = true) (k : Nat) : (wayB n xs k).length = waySz n xs k := by
  unfold wayB waySz
  split
  · rw [List.length_cons, plainB_len]; omega
  · split
    · rw [List.length_cons, lebs_lebL _ (gapsA_lt hn h)]; omega
    · rw [List.length_cons, lebs_lebL _ (runsA_lt hn h)]; omega
theorem waySz_le {n : Nat} {xs : List Int} (hn : n ≤ 4096) (h : rightL n 0 xs = true) (k : Nat) : waySz n xs k ≤ 1000000 := by
  have hl := right_len h (by omega)
  have h1 := lebL_le (gapsA xs)
  have h2 := lebL_le (runsA xs)
  have h3 := runsA_len xs
  rw [gapsA_len] at h1
  unfold waySz
  split
  · omega
  · split <;> omega
theorem way_any {n : Nat} {xs : List Int} (a : Option Addr) (c : Nat) (w : World) (hn : n ≤ 4096) (h : rightL n 0 xs = true) (hc : xs.length ≤ c) (hr : Ri w a xs) :
    Calls Tryd.prog 15 #[.int .i64 n, .slice a xs.length c] w fun e w' => Below w.heap.size w w' ∧ e = .returned (.int .i64 (wayOf n xs : Nat)) := by
  have hl := right_len h (by omega)
  have hl2 : xs.length ≤ 40000 := by omega
  refine way_walk n xs a c w (waySz n xs) (waySz_le hn h) ?_ ?_
  · have t := right_any n xs a c w hr (by omega)
    have e : ((decide (0 ≤ (n : Int)) && decide ((n : Int) ≤ 4096)) && rightL n 0 xs) = true := by
      have h1 : (n : Int) ≤ 4096 := by omega
      simp [h1, h]
    rwa [e] at t
  · intro k hk w1 hb
    match k, hk with
    | 0, _ =>
      refine (size_plain n xs a c w1 (hr.keep' hb) hl2 hn h).mono ?_
      rintro e w' ⟨rfl, rfl⟩
      exact ⟨Below.refl _ _, by simp [waySz]⟩
    | 1, _ =>
      refine (size_gaps n xs a c w1 (hr.keep' hb) hl2 (by omega) (by omega) h).mono ?_
      rintro e w' ⟨hb1, rfl⟩
      exact ⟨hb1, by simp [waySz, gapsA]⟩
    | 2, _ =>
      refine (size_runs n xs a c w1 (hr.keep' hb) hl2 hc (by omega) (by omega) h).mono ?_
      rintro e w' ⟨hb1, rfl⟩
      exact ⟨hb1, by simp [waySz, runsA]⟩
theorem way_le (n : Nat) (xs : List Int) : wayOf n xs = 0 ∨ wayOf n xs = 1 ∨ wayOf n xs = 2 := by
  have h := (wl_le (waySz n xs) (waySz n xs 0 + waySz n xs 1 + waySz n xs 2) (fun k => by
    have h0 : waySz n xs k = waySz n xs 0 ∨ waySz n xs k = waySz n xs 1 ∨ waySz n xs k = waySz n xs 2 := by
      by_cases h0 : k = 0
      · exact .inl (by rw [h0])
      · by_cases h1 : k = 1
        · exact .inr (.inl (by rw [h1]))
        · exact .inr (.inr (by simp [waySz, h0, h1]))
    omega) 2).1
  unfold wayOf
  omega
theorem way_no (n : Int) (xs : List Int) (a : Option Addr) (c : Nat) (w : World) (hr : Ri w a xs) (hc : xs.length ≤ 100000) (hR : ((decide (0 ≤ n) && decide (n ≤ 4096)) && rightL n 0 xs) = false) :
    Calls Tryd.prog 15 #[.int .i64 n, .slice a xs.length c] w fun e w' => w' = w ∧ e = .returned (.int .i64 (-1)) := by
  have hq := right_any n xs a c w hr (by omega)
  rw [hR] at hq
  clear hR hr
  go_enter Tryd.func15, Tryd.ntmps15
  go_wp2_with (go_at_call 11; refine hq.mono ?_; rintro e w' ⟨h, rfl⟩; obtain rfl := h.symm)
  go_ret
  exact ⟨rfl, rfl⟩
theorem write_no (g : Nat) (n : Int) (xs : List Int) (a : Option Addr) (c : Nat) (w : World) (hr : Ri w a xs) (hc : xs.length ≤ 100000) (hR : ((decide (0 ≤ n) && decide (n ≤ 4096)) && rightL n 0 xs) = false) :
    Calls Tryd.prog 9 #[.pointer (some ⟨g, 0, none⟩), .int .i64 n, .slice a xs.length c] w fun e w' => w' = w ∧ e = .returned (.iface 32 (.int .i64 1)) := by
  have hq := way_no n xs a c w hr hc hR
  clear hR hr
  go_enter Tryd.func9, Tryd.ntmps9
  go_wp2_with (go_at_call 15; refine hq.mono ?_; rintro e w' ⟨h, rfl⟩; obtain rfl := h.symm)
  go_ret
  exact ⟨rfl, rfl⟩
theorem Wtr.below {w w1 : World} {g : Nat} {r : Option Nat} {bs : List UInt8} (h : Wtr w g r bs) (hb : Below w.heap.size w w1) : Wtr w1 g r bs := by
  obtain ⟨v, hg, hr, hne, hown⟩ := h.is
  exact ⟨⟨v, (hb.block g (heap_lt hg)).trans hg, hr, hne, ownsRow_heap hown (fun k hk => hb.block k (hown.lt k hk).2)⟩⟩
theorem Wtr.lts {w : World} {g : Nat} {r : Option Nat} {bs : List UInt8} (h : Wtr w g r bs) : ∀ k, (k = g ∨ some k = r) → k < w.heap.size := by
  obtain ⟨v, hg, hr, hne, hown⟩ := h.is
  rintro k (rfl | hk)
  · exact heap_lt hg
  · exact (hown.lt k (by rw [hr, ← hk])).2
theorem Sv.ru_keep {w0 w1 w' : World} {S : Nat → Prop} {a : Option Addr} {n c : Nat} {ps : List Nat} (h : Sv w0 w1 (.slice a n c) ps) (f : Fr S w1 w') (hS : ∀ k, S k → k < w0.heap.size) : Ru w' a ps := by
  intro i x hx
  obtain ⟨b, o, e, hc⟩ := h.ru i x hx
  refine ⟨b, o, e, f.cell hc (fun hs => ?_)⟩
  have h1 := hS b hs
  rcases h.own.2 with ⟨h1', h2⟩ | ⟨g, cap, cur, h1', h3, h4, h5, h6, h7, h8⟩
  · have : ps = [] := List.length_eq_zero_iff.1 h2
    subst this; simp at hx
  · simp only [Value.slice.injEq] at h1'
    obtain ⟨rfl, -, rfl⟩ := h1'
    have e1 : g = b := congrArg Addr.block (Option.some.inj e)
    have e2 : b < w0.heap.size := h1
    omega
/-- two steps of a Writer, with new blocks between -/
theorem WStep.mid {a b c d : World} {g : Nat} {r r1 : Option Nat} {cs : List UInt8} (f1 : Fr (fun k => k = g ∨ some k = r) a b) (h1 : RowTo a r r1) (hb : Below b.heap.size b c) (h : WStep c d g r1 cs) : WStep a d g r cs :=
  WStep.go (f1.trans (Fr.ofBelow hb)) h1 h
end Go.Proofs.YtidhcmhheohciaaDoor
namespace Go.Proofs.YtidhcmhheohciaaDoor
open Go.RowKit
set_option maxRecDepth 100000 in
set_option maxHeartbeats 4000000 in
theorem rplain_any (n : Nat) (xs : List Int) (a : Option Addr) (c : Nat) (w : World) (hr : Ri w a xs) (hc : xs.length ≤ 100000) (hn : n ≤ 4096) (hR : rightL n 0 xs = true) :
    Calls Tryd.prog 22 #[.int .i64 n, .slice a xs.length c] w fun e w' => e = .returned (.slice (some ⟨w.heap.size, 0, none⟩) (wayB n xs 0).length (wayB n xs 0).length) ∧ RowB w' w.heap.size (wayB n xs 0) ∧ Below w.heap.size w w' := by
  have HR : Hid (Ri w a xs) := hr
  have HG : Hid (rightL n 0 xs = true) := hR
  have hm : (n + 7) / 8 ≤ 999 := by omega
  have hm2 : Hid ((n : Int) ≤ 8 * ((n + 7) / 8 : Nat)) := by unfold Hid; omega
  have hW : wayB n xs 0 = 0 :: foldB (List.replicate ((n + 7) / 8) 0) xs := by simp [wayB, plainB]
  have hWL : (wayB n xs 0).length = 1 + (n + 7) / 8 := by rw [waySz_len hn hR]; rfl
  have en : ((n : Int) + 7) / 8 = ((n + 7) / 8 : Nat) := by omega
  rw [hWL, hW]
  clear hr hR hW hWL
  generalize (n + 7) / 8 = m at *
  obtain ⟨M, hM⟩ : ∃ M, M = 1 + m := ⟨_, rfl⟩
  have eM : (1 : Int) + m = M := by omega
  have hmk := fun w => plain_made w M (by omega)
  have hrep : List.replicate M (0 : UInt8) = 0 :: List.replicate m 0 := by rw [hM, Nat.add_comm, List.replicate_succ]
  rw [← hM]
  have HM := hide hM
  have HREP := hide hrep
  clear hM hrep
  go_enter Tryd.func22, Tryd.ntmps22
  go_wp2_with fail
  go_loopw [6] (fun s6 wr => ∃ k : Nat, s6 = .int .i64 k ∧ k ≤ xs.length ∧ Hid (RowB wr w.heap.size (0 :: foldB (List.replicate m 0) (xs.take k)) ∧ Below w.heap.size w wr)) (fun s6 _ => xs.length - (intOf s6).toNat)
  case atStart => exact ⟨0, rfl, Nat.zero_le _, by
    have t : RowB (w.alloc (rowObj (List.replicate M 0))) w.heap.size (List.replicate M 0) := heap_alloc_new w _
    rw [HREP.out] at t ⊢
    exact t, (Below.refl _ _).alloc (Nat.le_refl _) _⟩
  case round =>
    obtain ⟨k, rfl, hk, h4⟩ := hrel
    by_cases hk2 : k = xs.length
    · subst hk2
      go_wp2
      go_ret
      have := h4.out
      rw [List.take_length] at this
      exact ⟨rfl, this⟩
    · have hlt : k < xs.length := by omega
      have hlt' : (k : Int) < xs.length := by omega
      obtain ⟨ab, ao, rfl, hcell⟩ := (HR.out.keep' h4.out.2).at hlt
      have hx := right_mem HG.out (xs.getD k 0) (by simp [hlt])
      have HT : Hid (foldB (List.replicate m 0) (xs.take (k + 1)) = setB (foldB (List.replicate m 0) (xs.take k)) (xs.getD k 0).toNat) := by
        unfold Hid foldB
        rw [List.take_succ_eq_append_getElem hlt, show xs[k] = xs.getD k 0 by simp [hlt], List.foldl_append]
        rfl
      have hlen : (foldB (List.replicate m 0) (xs.take k)).length = m := by rw [foldB_len]; simp
      generalize hb5 : foldB (List.replicate m 0) (xs.take (k + 1)) = b' at *
      have HT5 := hide hb5
      clear hb5
      generalize foldB (List.replicate m 0) (xs.take k) = b at *
      generalize xs.getD k 0 = x at *
      obtain ⟨y, rfl⟩ : ∃ y : Nat, x = (y : Int) := ⟨x.toNat, by omega⟩
      have hy : y / 8 < m := by have := hm2.out; omega
      obtain ⟨q, hq⟩ : ∃ q, q = y / 8 := ⟨_, rfl⟩
      obtain ⟨q1, hq1⟩ : ∃ q1, q1 = q + 1 := ⟨_, rfl⟩
      obtain ⟨j, hj⟩ : ∃ j, j = y % 8 := ⟨_, rfl⟩
      have e1 : (y : Int) / 8 = q := by omega
      have e3 : (1 : Int) + q = q1 := by omega
      have e2 : (y : Int) % 8 = j := by omega
      have hq0 : (0 : Int) ≤ q1 := by omega
      have hqM : (q1 : Int) < M := by omega
      have hj0 : (0 : Int) ≤ j := by omega
      have hj1 : (j : Int) < 8 := by omega
      have hy0 : (0 : Int) ≤ y := by omega
      have hy1 : (y : Int) ≤ 4096 := by omega
      have hq5 : (0 : Int) ≤ q := by omega
      have hq6 : (q : Int) ≤ 4096 := by omega
      have hcb := h4.out.1.cell (i := q1) (by simp; omega)
      have eg : (0 :: b).getD q1 0 = b.getD q 0 := by rw [hq1]; simp
      rw [eg] at hcb
      have hfz := h4.out.1.fz q1
      have HS0 := h4.out.1.set q1 (UInt8.ofNat ((b.getD q 0).toNat ||| 2 ^ j))
      have es : (0 :: b).set q1 (UInt8.ofNat ((b.getD q 0).toNat ||| 2 ^ j)) = 0 :: b.set q (UInt8.ofNat ((b.getD q 0).toNat ||| 2 ^ j)) := by rw [hq1]; rfl
      rw [es] at HS0
      have HS := hide HS0
      have HB : Hid (Below w.heap.size w wr) := h4.out.2
      have HO := hide (or_bit (b.getD q 0) j (by omega))
      have HBB := HB.out.setCell (p := ⟨w.heap.size, q1, none⟩) (Nat.le_refl _) (.int .u8 ((UInt8.ofNat ((b.getD q 0).toNat ||| 2 ^ j)).toNat : Int))
      replace HBB := hide HBB.drew
      have HT2 : Hid (b' = b.set q (UInt8.ofNat ((b.getD q 0).toNat ||| 2 ^ j))) := by
        unfold Hid; rw [HT.out, setB, Int.toNat_natCast, hq, hj]
      clear h4 hq hq1 hj hx hlen HT hy eg es HS0
      generalize UInt8.ofNat ((b.getD q 0).toNat ||| 2 ^ j) = u at *
      generalize (b.getD q 0) = cb at *
      go_wp2
      go_region
      rw [HO.out]
      go_wp2
      go_round
      case rel => exact ⟨k + 1, by go_num, by omega, by unfold Hid; rw [HT5.out, HT2.out]; exact ⟨HS.out, HBB.out⟩⟩
      case measure => simp [intOf]; omega
end Go.Proofs.YtidhcmhheohciaaDoor
namespace Go.Proofs.YtidhcmhheohciaaDoor
open Go.RowKit
theorem NewB.keep {w0 w1 w2 : World} {a : Option Addr} {c : Nat} {bs : List UInt8} (h : NewB w0 w1 a c bs) (f : Fr (fun _ => False) w1 w2) : NewB w0 w2 a c bs :=
  ⟨ownsRow_heap h.own (fun k hk => f.block k (h.own.lt k hk).2 (fun h => h)), h.fr.trans f⟩
theorem NewB.nil (w : World) : NewB w w none 0 [] := ⟨World.ownsRow_nil _ _ _ _, Fr.refl _ _⟩
/-- bytes more -/
theorem wpList_appB {ops : Array Oper} {rest : List Oper} {o : Oper} {a : Act} {Q : Exit → Act → World → Prop} (w0 w1 : World) (hgd : o.guard = none) (s x : Operand)
    (ho : o.op = .call { callee := .builtin .append, args := #[s, x], argTypes := #[33, 33] })
    (a0 : Option Addr) (c0 : Nat) (bs : List UInt8) (hS : NewB w0 w1 a0 c0 bs) (hs : a.eval s = .slice a0 bs.length c0) (ad : Addr) (c : Nat) (zs : List UInt8) (hx : a.eval x = .slice (some ad) zs.length c)
    (hz : ∀ j u, (B8 zs)[j]? = some u → w1.cell? (ad.add j) = some u) (hl : bs.length + zs.length ≤ 1000000)
    (h : ∀ a' c' w', NewB w0 w' a' c' (bs ++ zs) → wpList Tryd.prog ops Q rest (a.put o.dst (.slice a' (bs ++ zs).length c')) w') : wpList Tryd.prog ops Q (o :: rest) a w1 := by
  obtain ⟨i0, hi, hz0, hz1, hz2⟩ := info_parts Tryd.info5
  refine wpList_append_own _ hgd s x 33 ho w0.heap.size 5 i0 (.int .u8 0) 1 1 Tryd.underlying33 hi hz0 hz1 hz2 rfl (by decide) (.slice a0 bs.length c0) bs.length (B8 bs) hs hS.own ad zs.length c (B8 zs) hx (by rw [B8_length, Nat.mul_one]) hz (b8_one zs) ?_ ?_ ?_ ?_
  · unfold maxLen; omega
  · omega
  · exact hS.fr.size
  · intro v' w' hown hgrow _
    obtain ⟨a', c', rfl⟩ := ownsRow_slice hown
    have el : bs.length + zs.length = (bs ++ zs).length := by simp
    rw [el] at hown ⊢
    rw [← B8_append] at hown
    exact h a' c' w' ⟨hown, hS.fr.grown hgrow (fun k hk hlt => absurd (hS.own.lt k hk).1 (by omega))⟩
theorem lebF_ne (n : Nat) : lebF 9 n ≠ [] := fun e => by have := (lebF_length 9 n).1; rw [e] at this; simp at this
set_option maxRecDepth 100000 in
set_option maxHeartbeats 4000000 in
theorem rgaps_any (n : Nat) (xs : List Int) (a : Option Addr) (c : Nat) (w : World) (hr : Ri w a xs) (hn : n ≤ 4096) (hR : rightL n 0 xs = true) :
    Calls Tryd.prog 23 #[.slice a xs.length c] w fun e w' => ∃ a' c', e = .returned (.slice a' (wayB n xs 1).length c') ∧ NewB w w' a' c' (wayB n xs 1) := by
  have HR := hide hr
  have HG := hide hR
  have hlen := right_len hR (by omega)
  have hl2 : xs.length ≤ 4096 := by omega
  have hW : wayB n xs 1 = [1] ++ lebF 9 xs.length ++ lebs (gapL 0 xs) := by simp [wayB, gapsA, lebs_cons]
  have hWL : (wayB n xs 1).length ≤ 50000 := by
    rw [waySz_len hn hR]; unfold waySz
    have := lebL_le (gapsA xs)
    rw [gapsA_len] at this
    simp; omega
  have N0 : NewB w (w.alloc (.cells #[.int .u8 1] 5)) (some ⟨w.heap.size, 0, none⟩) 1 [1] := newB_one w 1
  have C0 := refu_all xs.length (by omega) (w.alloc (.cells #[.int .u8 1] 5))
  have hq0 := (lebF_length 9 xs.length).2
  have hne := lebF_ne xs.length
  generalize wayB n xs 1 = W at *
  have HW := hide hW
  replace N0 := hide N0
  clear hr hR hW hlen
  generalize lebF 9 xs.length = ls at *
  have HW2 : Hid (([1] ++ ls) ++ lebs (gapL 0 xs) = W) := HW.out.symm
  clear HW
  go_enter Tryd.func23, Tryd.ntmps23
  go_upto_region 2 with first | (go_at_call 48; refine C0.mono ?_; rintro e w1 ⟨a1, c1, rfl, hN⟩; clear C0; obtain ⟨kb, rfl, hcells⟩ := hN.bs hne; have N1 := N0.out.keep hN.fr; clear hN N0) | (at_builtin; refine wpList_appB w w1 rfl (.tmp 6) (.tmp 10) rfl (some ⟨w.heap.size, 0, none⟩) 1 [1] N1 rfl ⟨kb, 0, none⟩ c1 ls rfl hcells (by simp; omega) ?_; intro a2 c2 w2 hS2; clear N1 hcells; generalize [1] ++ ls = bs0 at *)
  replace hS2 := hide hS2
  clear hne
  go_wp2_with fail
  go_loopw [3, 4] (fun s3 s4 wr => ∃ (k : Nat) (l : Int) (bs : List UInt8) (a3 : Option Addr) (c3 : Nat), s4 = .int .i64 k ∧ s3 = .slice a3 bs.length c3 ∧ k ≤ xs.length ∧ (k = 0 → l = 0) ∧ 0 ≤ l ∧ Hid ((k ≠ 0 → xs.getD (k - 1) 0 + 1 = l) ∧ rightL n l (xs.drop k) = true ∧ NewB w wr a3 c3 bs ∧ bs ++ lebs (gapL l (xs.drop k)) = W)) (fun _ s4 _ => xs.length - (intOf s4).toNat)
  case atStart => exact ⟨0, 0, bs0, a2, c2, rfl, rfl, Nat.zero_le _, fun _ => rfl, Int.le_refl _, ⟨fun h => absurd rfl h, HG.out, hS2.out, HW2.out⟩⟩
  case round =>
    obtain ⟨k, l, bs, a3, c3, rfl, rfl, hk, hl0, hl1, h4⟩ := hrel
    by_cases hk2 : k = xs.length
    · have hk3 : ¬ (k : Int) < xs.length := by omega
      have H5 : Hid (bs = W ∧ NewB w wr a3 c3 bs) := by
        have t := h4.out
        rw [List.drop_of_length_le (by omega)] at t
        exact ⟨by simpa [gapL, lebs] using t.2.2.2, t.2.2.1⟩
      clear h4 hl0
      go_wp2
      go_ret
      obtain ⟨rfl, z⟩ := H5.out
      exact ⟨a3, c3, rfl, z⟩
    · have hlt : k < xs.length := by omega
      have hlt' : (k : Int) < xs.length := by omega
      have HD : Hid (xs.drop k = xs.getD k 0 :: xs.drop (k + 1)) := by
        unfold Hid
        rw [List.drop_eq_getElem_cons hlt]; simp [hlt]
      have HRr := hide (HR.out.keep' (h4.out.2.2.1.fr.below (Nat.le_refl _) (fun _ h => h.elim)))
      obtain ⟨ab, ao, rfl, hcell⟩ := HRr.out.at hlt
      have h5 := h4.out
      rw [HD.out] at h5
      have hgx : xs.getD (k + 1 - 1) 0 = xs.getD k 0 := by simp
      generalize hx : xs.getD k 0 = x at *
      obtain ⟨x0, x1, HG2⟩ : l ≤ x ∧ x < n ∧ Hid (rightL n (x + 1) (xs.drop (k + 1)) = true) := by
        have t := h5.2.1
        rw [rightL] at t
        split at t
        · exact absurd t (by simp)
        · exact ⟨by omega, by omega, t⟩
      have hn4 : (n : Int) ≤ 4096 := by omega
      obtain ⟨d, hd⟩ : ∃ d : Nat, (d : Int) = x - l := ⟨(x - l).toNat, by omega⟩
      have ed : (x - l).toNat = d := by omega
      have HE : Hid (bs ++ lebF 9 d ++ lebs (gapL (x + 1) (xs.drop (k + 1))) = W) := by
        unfold Hid
        rw [← h5.2.2.2, gapL, lebs_cons, ed, List.append_assoc]
      have hN3 := hide h5.2.2.1
      have hpl : bs.length ≤ 50000 := by
        have := congrArg List.length h5.2.2.2
        rw [List.length_append] at this; omega
      have hld := (lebF_length 9 d).2
      have hne2 := lebF_ne d
      have C1 := fun w => refu_all d (by omega) w
      have H0 := hide h5.1
      have HGX := hide hgx
      clear h4 h5 ed hx hgx
      generalize lebF 9 d = ls2 at *
      have hK : ((k + 1 : Nat) ≠ 0 → xs.getD (k + 1 - 1) 0 + 1 = x + 1) := fun _ => by rw [HGX.out]
      have HK := hide hK
      clear hK
      have hwd : IntKind.u64.wrap (d : Int) = d := by rw [IntKind.wrap_u64]; omega
      by_cases hk0 : k = 0
      · obtain rfl := hl0 hk0
        have hk0' : ¬ (0 : Int) < k := by omega
        obtain rfl : x = (d : Int) := by omega
        have hd0 : (0 : Int) ≤ (d : Int) := by omega
        clear hl0 H0 hd hk0
        go_wp2_with first | (go_at_call 48; refine (C1 _).mono ?_; rintro e w3 ⟨a4, c4, rfl, hN⟩; clear C1; obtain ⟨kb, rfl, hcells⟩ := hN.bs hne2; have N4 := hN3.out.keep hN.fr; clear hN) | (at_builtin; refine wpList_appB w w3 rfl (.tmp 35) (.tmp 38) rfl a3 c3 bs N4 rfl ⟨kb, 0, none⟩ c4 ls2 rfl hcells (by omega) ?_; intro a5 c5 w5 hS5; replace hS5 := hide hS5; clear N4 hcells; generalize bs ++ ls2 = bs2 at *)
        go_round
        case rel => exact ⟨k + 1, (d : Int) + 1, bs2, a5, c5, by go_num, rfl, by omega, fun h => absurd h (by omega), by omega, ⟨HK.out, HG2.out, hS5.out, HE.out⟩⟩
        case measure => simp [intOf]; omega
      · have hk0' : (0 : Int) < k := by omega
        have hlast := H0.out hk0
        have hlt2 : k - 1 < xs.length := by omega
        obtain ⟨ab2, ao2, eab, hcell2⟩ := HRr.out.at hlt2
        obtain ⟨rfl, rfl⟩ : ab = ab2 ∧ ao = ao2 := by simpa using eab
        generalize xs.getD (k - 1) 0 = y at *
        obtain ⟨k1, hk1⟩ : ∃ k1 : Nat, k1 = k - 1 := ⟨_, rfl⟩
        have ek1 : (k : Int) - 1 = k1 := by omega
        rw [← hk1] at hcell2
        have hk1a : (0 : Int) ≤ k1 := by omega
        have hk1b : (k1 : Int) < xs.length := by omega
        have hxy : x - y - 1 = d := by omega
        have hy0 : -1 ≤ y ∧ y ≤ 5000 := by omega
        obtain ⟨hy0, hy1⟩ := hy0
        have hx5 : x ≤ 5000 := by omega
        have hx6 : 0 ≤ x := by omega
        clear hl0 H0 hk0 hlast hk1 eab hd
        go_wp2
        go_quiet (fail)
        go_wp2_with first | (go_at_call 48; refine (C1 _).mono ?_; rintro e w3 ⟨a4, c4, rfl, hN⟩; clear C1; obtain ⟨kb, rfl, hcells⟩ := hN.bs hne2; have N4 := (hN3.out.keep (fr_drewN wr nq)).keep hN.fr; clear hN) | (at_builtin; refine wpList_appB w w3 rfl (.tmp 35) (.tmp 38) rfl a3 c3 bs N4 rfl ⟨kb, 0, none⟩ c4 ls2 rfl hcells (by omega) ?_; intro a5 c5 w5 hS5; replace hS5 := hide hS5; clear N4 hcells; generalize bs ++ ls2 = bs2 at *)
        go_round
        case rel => exact ⟨k + 1, x + 1, bs2, a5, c5, by go_num, rfl, by omega, fun h => absurd h (by omega), by omega, ⟨HK.out, HG2.out, hS5.out, HE.out⟩⟩
        case measure => simp [intOf]; omega
end Go.Proofs.YtidhcmhheohciaaDoor
namespace Go.Proofs.YtidhcmhheohciaaDoor
open Go.RowKit
set_option maxRecDepth 100000 in
set_option maxHeartbeats 4000000 in
theorem write_any0 (g : Nat) (r : Option Nat) (bs : List UInt8) (n : Nat) (xs : List Int) (a : Option Addr) (c : Nat) (w : World) (h : Wtr w g r bs) (hr : ∀ w' : World, Fr (fun k => k = g ∨ some k = r) w w' → Ri w' a xs) (hb : bs.length ≤ 100000) (hn : n ≤ 4096) (hc : xs.length ≤ c) (hR : rightL n 0 xs = true) (e : wayOf n xs = 0) :
    Calls Tryd.prog 9 #[.pointer (some ⟨g, 0, none⟩), .int .i64 n, .slice a xs.length c] w fun e w' => e = .returned .nilIface ∧ WStep w w' g r (bs ++ wayB n xs (wayOf n xs)) := by
  have hq := way_any a c w hn hR hc (hr w (Fr.refl _ _))
  have hl := right_len hR (by omega)
  have HRR : Hid (∀ w' : World, Fr (fun k => k = g ∨ some k = r) w w' → Ri w' a xs) := hr
  have HW : Hid (Wtr w g r bs) := h
  have HG : Hid (rightL n 0 xs = true) := hR
  have HB : Hid (bs.length ≤ 100000) := hb
  clear hr h hb hR
  rw [e] at hq ⊢
  have HE : Hid (wayB n xs 0 = [0] ++ plainB ((n + 7) / 8) xs) := hide (by simp [wayB])
  clear e
  go_enter Tryd.func9, Tryd.ntmps9
  go_wp2_with (go_at_call 15; refine hq.mono ?_; rintro e w1 ⟨hb1, rfl⟩; replace hb1 := hide hb1)
  refine (byte_any g r bs 0 0 (by rfl) w1 (HW.out.below hb1.out) (by have := HB.out; unfold Hid; omega)).mono ?_
  rintro e w2 ⟨rfl, h2⟩
  obtain ⟨r1, t1, f1, x1⟩ := WStep.go (Fr.ofBelow hb1.out) (.inl rfl) h2
  have H2 := hide (And.intro t1 (And.intro f1 x1))
  have hp := plain_any n xs a c w2 (HRR.out w2 f1) (by omega) hn HG.out
  clear hq h2 t1 f1 x1 hb1
  go_wp2_with fail
  refine hp.mono ?_
  rintro e w3 ⟨rfl, hrow, hb3⟩
  have H3 := hide (And.intro hrow hb3)
  have hraw := wraw_any g r1 (bs ++ [0]) (plainB ((n + 7) / 8) xs) (some ⟨w2.heap.size, 0, none⟩) (plainB ((n + 7) / 8) xs).length w3 (H2.out.1.below hb3) (rowObj_row hrow).bs (by intro h; cases h) (by rw [plainB_len]; have := HB.out; simp; omega)
  clear hp hrow hb3
  go_wp2_with fail
  refine hraw.mono ?_
  rintro e w4 ⟨rfl, h4⟩
  have H4 := hide (WStep.mid H2.out.2.1 H2.out.2.2 H3.out.2 h4)
  clear hraw h4
  go_wp2
  go_ret
  exact ⟨rfl, by rw [HE.out, ← List.append_assoc]; exact H4.out⟩
end Go.Proofs.YtidhcmhheohciaaDoor
namespace Go.Proofs.YtidhcmhheohciaaDoor
open Go.RowKit
set_option maxRecDepth 100000 in
set_option maxHeartbeats 4000000 in
theorem write_any1 (g : Nat) (r : Option Nat) (bs : List UInt8) (n : Nat) (xs : List Int) (a : Option Addr) (c : Nat) (w : World) (h : Wtr w g r bs) (hr : ∀ w' : World, Fr (fun k => k = g ∨ some k = r) w w' → Ri w' a xs) (hb : bs.length ≤ 100000) (hn : n ≤ 4096) (hc : xs.length ≤ c) (hR : rightL n 0 xs = true) (e : wayOf n xs = 1) :
    Calls Tryd.prog 9 #[.pointer (some ⟨g, 0, none⟩), .int .i64 n, .slice a xs.length c] w fun e w' => e = .returned .nilIface ∧ WStep w w' g r (bs ++ wayB n xs (wayOf n xs)) := by
  have hq := way_any a c w hn hR hc (hr w (Fr.refl _ _))
  have hl := right_len hR (by omega)
  have HRR : Hid (∀ w' : World, Fr (fun k => k = g ∨ some k = r) w w' → Ri w' a xs) := hr
  have HW : Hid (Wtr w g r bs) := h
  have HG : Hid (rightL n 0 xs = true) := hR
  have HB : Hid (bs.length ≤ 100000) := hb
  clear hr h hb hR
  rw [e] at hq ⊢
  have HE : Hid (wayB n xs 1 = [1] ++ lebs (gapsA xs)) := hide (by simp [wayB])
  clear e
  go_enter Tryd.func9, Tryd.ntmps9
  go_wp2_with (go_at_call 15; refine hq.mono ?_; rintro e w1 ⟨hb1, rfl⟩; replace hb1 := hide hb1)
  refine (byte_any g r bs 1 1 (by rfl) w1 (HW.out.below hb1.out) (by have := HB.out; unfold Hid; omega)).mono ?_
  rintro e w2 ⟨rfl, h2⟩
  obtain ⟨r1, t1, f1, x1⟩ := WStep.go (Fr.ofBelow hb1.out) (.inl rfl) h2
  have H2 := hide (And.intro t1 (And.intro f1 x1))
  have hp : Calls Tryd.prog 35 #[.slice a xs.length c] w2 fun e w' => ∃ a' c', e = .returned (.slice a' (gapsA xs).length c') ∧ Sv w2 w' (.slice a' (gapsA xs).length c') (gapsA xs) := gaps_any n xs a c w2 (HRR.out w2 f1) (by omega) (by omega) HG.out
  have hlen := gapsA_len xs
  have HLT := hide (gapsA_lt hn HG.out)
  have hys : Hid ((gapsA xs).length ≤ 100000) := by unfold Hid; omega
  clear hlen
  clear hq h2 t1 f1 x1 hb1
  generalize gapsA xs = ys at *
  go_wp2_with fail
  refine hp.mono ?_
  rintro e w3 ⟨a3, c3, rfl, hS⟩
  have H3 := hide hS
  have hlay := lay_any g r1 (bs ++ [1]) ys a3 c3 w3 (H2.out.1.below hS.bel) (fun w' f => hS.ru_keep f (H2.out.1.lts)) hys.out (by have := HB.out; simp; omega) HLT.out
  clear hp hS
  go_wp2_with fail
  refine hlay.mono ?_
  rintro e w4 ⟨rfl, h4⟩
  have H4 := hide (WStep.mid H2.out.2.1 H2.out.2.2 H3.out.bel h4)
  clear hlay h4
  go_wp2
  go_ret
  exact ⟨rfl, by rw [HE.out, ← List.append_assoc]; exact H4.out⟩
end Go.Proofs.YtidhcmhheohciaaDoor
namespace Go.Proofs.YtidhcmhheohciaaDoor
open Go.RowKit
set_option maxRecDepth 100000 in
set_option maxHeartbeats 4000000 in
theorem write_any2 (g : Nat) (r : Option Nat) (bs : List UInt8) (n : Nat) (xs : List Int) (a : Option Addr) (c : Nat) (w : World) (h : Wtr w g r bs) (hr : ∀ w' : World, Fr (fun k => k = g ∨ some k = r) w w' → Ri w' a xs) (hb : bs.length ≤ 100000) (hn : n ≤ 4096) (hc : xs.length ≤ c) (hR : rightL n 0 xs = true) (e : wayOf n xs = 2) :
    Calls Tryd.prog 9 #[.pointer (some ⟨g, 0, none⟩), .int .i64 n, .slice a xs.length c] w fun e w' => e = .returned .nilIface ∧ WStep w w' g r (bs ++ wayB n xs (wayOf n xs)) := by
  have hq := way_any a c w hn hR hc (hr w (Fr.refl _ _))
  have hl := right_len hR (by omega)
  have HRR : Hid (∀ w' : World, Fr (fun k => k = g ∨ some k = r) w w' → Ri w' a xs) := hr
  have HW : Hid (Wtr w g r bs) := h
  have HG : Hid (rightL n 0 xs = true) := hR
  have HB : Hid (bs.length ≤ 100000) := hb
  clear hr h hb hR
  rw [e] at hq ⊢
  have HE : Hid (wayB n xs 2 = [2] ++ lebs (runsA xs)) := hide (by simp [wayB])
  clear e
  go_enter Tryd.func9, Tryd.ntmps9
  go_wp2_with (go_at_call 15; refine hq.mono ?_; rintro e w1 ⟨hb1, rfl⟩; replace hb1 := hide hb1)
  refine (byte_any g r bs 2 2 (by rfl) w1 (HW.out.below hb1.out) (by have := HB.out; unfold Hid; omega)).mono ?_
  rintro e w2 ⟨rfl, h2⟩
  obtain ⟨r1, t1, f1, x1⟩ := WStep.go (Fr.ofBelow hb1.out) (.inl rfl) h2
  have H2 := hide (And.intro t1 (And.intro f1 x1))
  have hp : Calls Tryd.prog 36 #[.slice a xs.length c] w2 fun e w' => ∃ a' c', e = .returned (.slice a' (runsA xs).length c') ∧ Sv w2 w' (.slice a' (runsA xs).length c') (runsA xs) :=
    (runs_any n xs a c w2 (HRR.out w2 f1) (by omega) hc (by omega) HG.out).mono fun e w' ⟨p, a', c', h1, h2, h3⟩ => by
      have e2 : (runsG xs.length 0 xs).length / 2 = p := by omega
      have e3 : runsA xs = p :: runsG xs.length 0 xs := by rw [runsA, e2]
      rw [e3]
      exact ⟨a', c', h2, h3⟩
  have hlen := runsA_len xs
  have HLT := hide (runsA_lt hn HG.out)
  have hys : Hid ((runsA xs).length ≤ 100000) := by unfold Hid; omega
  clear hlen
  clear hq h2 t1 f1 x1 hb1
  generalize runsA xs = ys at *
  go_wp2_with fail
  refine hp.mono ?_
  rintro e w3 ⟨a3, c3, rfl, hS⟩
  have H3 := hide hS
  have hlay := lay_any g r1 (bs ++ [2]) ys a3 c3 w3 (H2.out.1.below hS.bel) (fun w' f => hS.ru_keep f (H2.out.1.lts)) hys.out (by have := HB.out; simp; omega) HLT.out
  clear hp hS
  go_wp2_with fail
  refine hlay.mono ?_
  rintro e w4 ⟨rfl, h4⟩
  have H4 := hide (WStep.mid H2.out.2.1 H2.out.2.2 H3.out.bel h4)
  clear hlay h4
  go_wp2
  go_ret
  exact ⟨rfl, by rw [HE.out, ← List.append_assoc]; exact H4.out⟩
end Go.Proofs.YtidhcmhheohciaaDoor
namespace Go.Proofs.YtidhcmhheohciaaDoor
open Go.RowKit
theorem write_all (g : Nat) (r : Option Nat) (bs : List UInt8) (n : Nat) (xs : List Int) (a : Option Addr) (c : Nat) (w : World) (h : Wtr w g r bs) (hr : ∀ w' : World, Fr (fun k => k = g ∨ some k = r) w w' → Ri w' a xs) (hb : bs.length ≤ 100000) (hn : n ≤ 4096) (hc : xs.length ≤ c) (hR : rightL n 0 xs = true) :
    Calls Tryd.prog 9 #[.pointer (some ⟨g, 0, none⟩), .int .i64 n, .slice a xs.length c] w fun e w' => e = .returned .nilIface ∧ WStep w w' g r (bs ++ wayB n xs (wayOf n xs)) := by
  rcases way_le n xs with e | e | e
  · have t := write_any0 g r bs n xs a c w h hr hb hn hc hR e
    exact t
  · have t := write_any1 g r bs n xs a c w h hr hb hn hc hR e
    exact t
  · have t := write_any2 g r bs n xs a c w h hr hb hn hc hR e
    exact t
/-- a row of numbers of the call's own, beside a Reader at block g -/
structure Sq (w0 wr : World) (g : Nat) (v : Value) (ps : List Int) : Prop where
  own : wr.ownsRow w0.heap.size 3 1 v ps.length (I64 ps)
  fr : Fr (fun k => k = g) w0 wr
theorem Sq.start {w0 wr : World} {g : Nat} (h : Fr (fun k => k = g) w0 wr) : Sq w0 wr g (.slice none 0 0) [] := ⟨World.ownsRow_nil _ _ _ _, h⟩
theorem Sq.slice {w0 wr : World} {g : Nat} {v : Value} {ps : List Int} (h : Sq w0 wr g v ps) : ∃ a c, v = .slice a ps.length c := by
  rcases h.own.2 with ⟨rfl, h2⟩ | ⟨g, cap, cur, rfl, _⟩
  · exact ⟨none, 0, by rw [h2]⟩
  · exact ⟨_, _, rfl⟩
theorem Sq.keep {w0 wr w2 : World} {g : Nat} {v : Value} {ps : List Int} (h : Sq w0 wr g v ps) (hg : g < w0.heap.size) (f : Fr (fun k => k = g) wr w2) : Sq w0 w2 g v ps :=
  ⟨ownsRow_heap h.own (fun k hk => f.block k (h.own.lt k hk).2 (by have := (h.own.lt k hk).1; omega)), h.fr.trans f⟩
theorem wpList_appq {ops : Array Oper} {rest : List Oper} {o : Oper} {a : Act} {Q : Exit → Act → World → Prop} (w0 w1 : World) (g : Nat) (hgd : o.guard = none) (s x : Operand)
    (ho : o.op = .call { callee := .builtin .append, args := #[s, x], argTypes := #[22, 22] })
    (v : Value) (ps : List Int) (n : Int) (hS : Sq w0 w1 g v ps) (hs : a.eval s = v) (hx : a.eval x = .slice (some ⟨w1.heap.size, 0, none⟩) 1 1) (hl : ps.length ≤ 1000000)
    (h : ∀ a' c' w', Sq w0 w' g (.slice a' (ps.length + 1) c') (ps ++ [n]) → Fr (fun k => w0.heap.size ≤ k) w1 w' → wpList Tryd.prog ops Q rest (a.put o.dst (.slice a' (ps.length + 1) c')) w') : wpList Tryd.prog ops Q (o :: rest) a (w1.alloc (.cells #[.int .i64 n] 3)) := by
  obtain ⟨i0, hi, hz0, hz1, hz2⟩ := info_parts info3p
  refine wpList_append_own _ hgd s x 22 ho w0.heap.size 3 i0 (.int .i64 0) 1 8 Tryd.underlying22 hi hz0 hz1 hz2 rfl (by decide) v ps.length (I64 ps) hs (hS.own.alloc _) ⟨w1.heap.size, 0, none⟩ 1 1 [.int .i64 n] hx rfl ?_ ?_ ?_ ?_ ?_ ?_
  · intro j u hj
    cases j with
    | zero => simp at hj; subst hj; simp [Addr.add]
    | succ j => simp at hj
  · intro u hu; simp at hu; subst hu; rfl
  · unfold maxLen; omega
  · omega
  · have := hS.fr.size; simp; omega
  · intro v' w' hown hgrow _
    have hT : Sq w0 w' g v' (ps ++ [n]) := by
      refine ⟨?_, (hS.fr.alloc _).grown hgrow (fun k hk hlt => absurd (hS.own.lt k hk).1 (by omega))⟩
      have e : I64 (ps ++ [n]) = I64 ps ++ [.int .i64 n] := by simp [I64]
      rw [e]
      simpa using hown
    have hF : Fr (fun k => w0.heap.size ≤ k) w1 w' := ((Fr.refl _ w1).alloc _).grown hgrow (fun k hk _ => (hS.own.lt k hk).1)
    obtain ⟨a', c', rfl⟩ := hT.slice
    simp only [List.length_append, List.length_cons, List.length_nil, Nat.zero_add] at hT ⊢
    exact h a' c' w' hT hF
/-- a slice of ints that stays, whatever of w0 changes -/
def RiK (w0 w : World) (a : Option Addr) (xs : List Int) : Prop := ∀ w' : World, Fr (fun k => k < w0.heap.size) w w' → Ri w' a xs
theorem own_riK {w0 w : World} {v : Value} {xs : List Int} (h : w.ownsRow w0.heap.size 3 1 v xs.length (I64 xs)) : ∃ a c, v = .slice a xs.length c ∧ xs.length ≤ c ∧ (a = none → c = 0) ∧ RiK w0 w a xs := by
  have h0 := h
  rcases h.2 with ⟨rfl, h2⟩ | ⟨g, cap, cur, rfl, h3, h4, h5, h6, h7, h8⟩
  · obtain rfl : xs = [] := List.length_eq_zero_iff.1 h2
    exact ⟨none, 0, rfl, Nat.le_refl _, fun _ => rfl, fun w' _ => Ri.nil _ _⟩
  · refine ⟨some ⟨g, 0, none⟩, cap, rfl, by omega, (fun e => by cases e), fun w' f i x hx => ⟨g, 0, rfl, ?_⟩⟩
    have hc := h0.cells (g := g) rfl i (.int .i64 x) (by unfold I64; rw [List.getElem?_map, hx]; rfl)
    have e : (⟨g, 0, none⟩ : Addr).add i = ⟨g, 0 + i, none⟩ := by
      unfold Addr.add
      split
      · rename_i hj0; rw [hj0]
      · simp
    rw [e] at hc
    exact f.cell hc (by show ¬ g < _; omega)
theorem left_drop (bs : List UInt8) (p q s : Nat) : leftOf bs (p + s) q = (leftOf bs p q).drop s := by
  unfold leftOf; rw [List.drop_drop]
theorem num_leb (d : Nat) (hd : d < 18446744073709551616) (zs : List UInt8) : numGo (lebF 9 d ++ zs) 0 0 = (d, (lebF 9 d).length, 0) := by
  have := leb_num 9 d 0 0 zs rfl (by omega) (by omega) (by omega) (by intro _; simpa using hd)
  simpa using this
set_option maxRecDepth 100000 in
set_option maxHeartbeats 4000000 in
theorem below_any (g rb : Nat) (bs : List UInt8) (p q : Nat) (l n m s : Nat) (w : World) (h : Rdr w g rb bs p q) (hl : l < n) (hn : n ≤ 4096) (hm : l + m < n) (hnum : numGo (leftOf bs p q) 0 0 = (m, s, 0)) :
    Calls Tryd.prog 70 #[.pointer (some ⟨g, 0, none⟩), .int .i64 l, .int .i64 n] w fun e w' => e = .returned (.tuple #[.int .i64 ((l + m : Nat) : Int), .nilIface]) ∧ Rdr w' g rb bs (p + s) q ∧ Fr (fun k => k = g) w w' := by
  have h1 : (l : Int) < n := by omega
  have h2 : (n : Int) ≤ 4096 := by omega
  have h3 : (l : Int) + m < n := by omega
  have HR := hide h
  have HN := hide hnum
  clear h hnum
  go_enter Tryd.func70, Tryd.ntmps70
  go_wp2_with fail
  refine (ruint_ok g rb bs p q _ m s w HR.out HN.out (by omega)).mono ?_
  rintro e w2 ⟨rfl, h4, h5⟩
  replace h4 := hide h4
  replace h5 := hide h5
  go_wp2
  go_ret2
  exact ⟨by simp, h4.out, h5.out⟩
end Go.Proofs.YtidhcmhheohciaaDoor
namespace Go.Proofs.YtidhcmhheohciaaDoor
open Go.RowKit
/-- numbers side by side -/
def side : Int → Nat → List Int
  | _, 0 => []
  | y, k + 1 => y :: side (y + 1) k
theorem side_succ (k : Nat) : ∀ y, side y (k + 1) = side y k ++ [y + k] := by
  induction k with
  | zero => intro y; simp [side]
  | succ k ih =>
    intro y
    rw [side, ih (y + 1), side]
    simp; omega
theorem side_len (k : Nat) : ∀ y, (side y k).length = k := by
  induction k with
  | zero => intro y; rfl
  | succ k ih => intro y; rw [side, List.length_cons, ih]
theorem run_side (t : List Int) : ∀ y, side y (runL y t) ++ t.drop (runL y t) = t := by
  induction t with
  | nil => intro y; simp [runL, side]
  | cons z t ih =>
    intro y
    rw [runL]
    split
    · rename_i e
      rw [side, List.drop_succ_cons, List.cons_append, ih, e]
    · rfl
theorem run_lt {n : Int} (t : List Int) : ∀ y, rightL n y t = true → y ≤ n → y + runL y t ≤ n := by
  induction t with
  | nil => intro y _ h; simp [runL]; omega
  | cons z t ih =>
    intro y h hy
    rw [rightL] at h
    split at h
    · exact absurd h (by simp)
    · rw [runL]
      split
      · rename_i e
        subst e
        have := ih (z + 1) h (by omega)
        omega
      · simp; omega
set_option maxRecDepth 100000 in
set_option maxHeartbeats 4000000 in
theorem truns_any (g rb : Nat) (bs : List UInt8) (p q n : Nat) (xs : List Int) (rest : List UInt8) (w : World) (h : Rdr w g rb bs p q) (hn : n ≤ 4096) (hR : rightL n 0 xs = true) (hb : leftOf bs p q = lebs (runsA xs) ++ rest) :
    Calls Tryd.prog 61 #[.pointer (some ⟨g, 0, none⟩), .int .i64 n] w fun e w' => ∃ a' c', e = .returned (.tuple #[.slice a' xs.length c', .nilIface]) ∧ xs.length ≤ c' ∧ (a' = none → c' = 0) ∧ RiK w w' a' xs ∧ Rdr w' g rb bs (p + (lebs (runsA xs)).length) q ∧ Fr (fun k => k = g) w w' := by
  have hlen := right_len hR (by omega)
  have hl2 : xs.length ≤ n := by omega
  have hn2 : (n : Int) ≤ 4096 := by omega
  have hg1 := heap_lt h.obj
  have hg2 := heap_lt h.row
  have HR := hide h
  have HG := hide hR
  have hrl := runsG_len xs.length 0 xs
  obtain ⟨cnt, hcnt⟩ : ∃ cnt, cnt = (runsG xs.length 0 xs).length / 2 := ⟨_, rfl⟩
  have eA : runsA xs = cnt :: runsG xs.length 0 xs := by rw [runsA, hcnt]
  have hc2 : cnt ≤ xs.length := by omega
  have hc3 : (cnt : Int) ≤ n := by omega
  have hnum : numGo (leftOf bs p q) 0 0 = (cnt, (lebF 9 cnt).length, 0) := by
    rw [hb, eA, lebs_cons, List.append_assoc]; exact num_leb _ (by omega) _
  have HL : Hid (leftOf bs (p + (lebF 9 cnt).length) q = lebs (runsG xs.length 0 xs) ++ rest) := by
    unfold Hid
    rw [left_drop, hb, eA, lebs_cons, List.append_assoc, List.drop_append_of_le_length (Nat.le_refl _), List.drop_length, List.nil_append]
  have HT : Hid (p + (lebF 9 cnt).length + (lebs (runsG xs.length 0 xs)).length = p + (lebs (runsA xs)).length) := by
    unfold Hid; rw [eA, lebs_cons, List.length_append]; omega
  have HC := hide hcnt
  clear h hb hR hlen eA hrl hcnt
  generalize (lebF 9 cnt).length = s0 at *
  generalize p + (lebs (runsA xs)).length = pe at *
  go_enter Tryd.func61, Tryd.ntmps61
  go_wp2_with fail
  refine (ruint_ok g rb bs p q _ cnt s0 w HR.out hnum (by omega)).mono ?_
  rintro e w1 ⟨rfl, h1, f1⟩
  have H1 := hide (And.intro h1 f1)
  clear h1 f1 hnum
  go_wp2_with fail
  go_loopw [8, 9, 25] (fun s8 s9 s25 wr => ∃ (k l pk f : Nat) (ps zs : List Int), s25 = .int .u64 k ∧ s9 = .int .i64 l ∧ k ≤ cnt ∧ l ≤ n + 1 ∧ Hid (zs.length ≤ f ∧ k + (runsG f l zs).length / 2 = cnt) ∧ Hid (Sq w wr g s8 ps ∧ ps ++ zs = xs ∧ rightL n l zs = true ∧ Rdr wr g rb bs pk q ∧ leftOf bs pk q = lebs (runsG f l zs) ++ rest ∧ pk + (lebs (runsG f l zs)).length = pe)) (fun _ _ s25 _ => cnt - (intOf s25).toNat)
  case atStart => exact ⟨0, 0, p + s0, xs.length, [], xs, rfl, rfl, Nat.zero_le _, Nat.zero_le _, ⟨Nat.le_refl _, by rw [HC.out]; simp⟩, ⟨Sq.start H1.out.2, by simp, HG.out, H1.out.1, HL.out, HT.out⟩⟩
  case round =>
    obtain ⟨k, l, pk, f, ps, zs, rfl, rfl, hk, hl, hz, h4⟩ := hrel
    obtain ⟨a5, c5, rfl, hc5, hn5, hri⟩ := own_riK h4.out.1.own
    cases zs with
    | nil =>
      have e1 : runsG f l [] = [] := by cases f <;> rfl
      have hk3 : ¬ (k : Int) < cnt := by have := hz.out.2; rw [e1] at this; simp at this; omega
      have H6 : Hid (ps = xs ∧ pk = pe ∧ ps.length ≤ c5 ∧ (a5 = none → c5 = 0) ∧ RiK w wr a5 ps ∧ Rdr wr g rb bs pk q ∧ Fr (fun k => k = g) w wr) := by
        have t := h4.out
        rw [e1] at t
        refine ⟨by simpa using t.2.1, by have := t.2.2.2.2.2; simpa [lebs] using this, hc5, hn5, hri, t.2.2.2.1, t.1.fr⟩
      clear h4 hc5 hn5 hri e1 hz
      go_wp2
      go_ret2
      obtain ⟨rfl, rfl, z1, z2, z3, z4, z5⟩ := H6.out
      exact ⟨a5, c5, rfl, z1, z2, z3, z4, z5⟩
    | cons x t =>
      clear hc5 hn5 hri
      obtain ⟨f, rfl⟩ : ∃ f', f = f' + 1 := ⟨f - 1, by have := hz.out.1; simp at this; omega⟩
      obtain ⟨h51, h52, h53, h54, h55, h56⟩ := h4.out
      obtain ⟨x0, x1, hG2⟩ : (l : Int) ≤ x ∧ x < n ∧ rightL n (x + 1) t = true := by
        have q5 := h53
        rw [rightL] at q5
        split at q5
        · exact absurd q5 (by simp)
        · exact ⟨by omega, by omega, q5⟩
      have hrt := run_lt t (x + 1) hG2 (by omega)
      have hG3 := run_right n t (x + 1) hG2
      have hside := run_side t (x + 1)
      have hzl : (t.drop (runL (x + 1) t)).length ≤ f := by have := hz.out.1; simp at this ⊢; omega
      have hcn := hz.out.2
      have hpl : ps.length ≤ n := by have := congrArg List.length h52; rw [List.length_append] at this; omega
      rw [runsG] at h55 h56 hcn
      generalize hr : runL (x + 1) t = r at *
      obtain ⟨d, rfl⟩ : ∃ d : Nat, x = ((l + d : Nat) : Int) := ⟨(x - l).toNat, by omega⟩
      have ed : (((l + d : Nat) : Int) - (l : Int)).toNat = d := by omega
      rw [ed, lebs_cons, lebs_cons] at h55 h56
      have el2 : ((l + d : Nat) : Int) + ((r + 1 : Nat) : Int) + 1 = ((l + d + r + 2 : Nat) : Int) := by omega
      rw [el2] at h55 h56 hcn
      have hnum1 : numGo (leftOf bs pk q) 0 0 = (d, (lebF 9 d).length, 0) := by
        rw [h55, List.append_assoc]; exact num_leb _ (by omega) _
      have hL1 : leftOf bs (pk + (lebF 9 d).length) q = lebF 9 r ++ lebs (runsG f ((l + d + r + 2 : Nat) : Int) (t.drop r)) ++ rest := by
        rw [left_drop, h55, List.append_assoc, List.append_assoc, List.drop_append_of_le_length (Nat.le_refl _), List.drop_length, List.nil_append, ← List.append_assoc]
      have hnum2 : Hid (numGo (leftOf bs (pk + (lebF 9 d).length) q) 0 0 = (r, (lebF 9 r).length, 0)) := by
        unfold Hid
        rw [hL1, List.append_assoc]; exact num_leb _ (by omega) _
      have HL2 : Hid (leftOf bs (pk + (lebF 9 d).length + (lebF 9 r).length) q = lebs (runsG f ((l + d + r + 2 : Nat) : Int) (t.drop r)) ++ rest ∧ pk + (lebF 9 d).length + (lebF 9 r).length + (lebs (runsG f ((l + d + r + 2 : Nat) : Int) (t.drop r))).length = pe) := by
        refine ⟨?_, ?_⟩
        · rw [left_drop, hL1, List.append_assoc, List.drop_append_of_le_length (Nat.le_refl _), List.drop_length, List.nil_append]
        · simp only [List.length_append] at h56; omega
      have HP2 : Hid (ps ++ side ((l + d : Nat) : Int) (r + 1) ++ t.drop r = xs) := by
        unfold Hid
        rw [side, List.append_assoc, List.cons_append, hside]; exact h52
      have HG4 : Hid (rightL n ((l + d + r + 2 : Nat) : Int) (t.drop r) = true) := by
        unfold Hid
        rw [← hG3]; congr 1; omega
      have HZ : Hid ((t.drop r).length ≤ f ∧ k + 1 + (runsG f ((l + d + r + 2 : Nat) : Int) (t.drop r)).length / 2 = cnt) := by
        refine ⟨hzl, ?_⟩
        simp only [List.length_cons] at hcn; omega
      have hk3 : (k : Int) < cnt := by simp only [List.length_cons] at hcn; omega
      have HS := hide h51
      have C1 := below_any g rb bs pk q l n d (lebF 9 d).length wr h54 (by omega) hn (by omega) hnum1
      have hmr : l + d + r < n := by omega
      clear h4 h51 h52 h53 h54 h55 h56 hz hnum1 hL1 ed el2 hrt hG2 hG3 hside hzl hcn hr
      generalize (lebF 9 d).length = s1 at *
      generalize (lebF 9 r).length = s2 at *
      generalize t.drop r = t' at *
      generalize hld : l + d = m at *
      clear hld x0 x1
      have hm1 : (m : Int) + r < n := by omega
      go_upto_region 14 with first | (go_at_call 70; refine C1.mono ?_; rintro e w2 ⟨rfl, h6, f6⟩; clear C1; have HS2 := hide (HS.out.keep hg1 f6); have C2 := below_any g rb bs (pk + s1) q m n r s2 w2 h6 (by omega) hn hmr hnum2.out; clear h6 f6) | (go_at_call 70; refine C2.mono ?_; rintro e w3 ⟨rfl, h7, f7⟩; clear C2; have HS3 := hide (HS2.out.keep hg1 f7); replace h7 := hide h7; clear f7)
      clear HS HS2 hnum2
      go_wp2_with fail
      go_loopw [8, 13] (fun s8 s13 w4 => ∃ i : Nat, s13 = .int .i64 (m + i : Nat) ∧ i ≤ r + 1 ∧ Hid (Sq w w4 g s8 (ps ++ side (m : Int) i) ∧ Rdr w4 g rb bs (pk + s1 + s2) q)) (fun _ s13 _ => m + r + 1 - (intOf s13).toNat)
      case atStart => exact ⟨0, by simp, by omega, ⟨by simpa [side] using HS3.out, h7.out⟩⟩
      case round =>
        obtain ⟨i, rfl, hi, h8⟩ := hrel
        obtain ⟨a6, c6, rfl⟩ := h8.out.1.slice
        have hlen6 : (ps ++ side (m : Int) i).length ≤ 1000000 := by rw [List.length_append, side_len]; omega
        by_cases hi2 : i = r + 1
        · subst hi2
          have hle : ¬ ((m + (r + 1) : Nat) : Int) ≤ ((m + r : Nat) : Int) := by omega
          generalize hps6 : ps ++ side (m : Int) (r + 1) = ps6 at *
          clear hps6
          go_wp2
          exact ⟨⟨k + 1, m + r + 2, pk + s1 + s2, f, ps6, t', by go_num, by go_num, by omega, by omega, HZ, ⟨h8.out.1, HP2.out, HG4.out, h8.out.2, HL2.out.1, HL2.out.2⟩⟩, by simp [intOf]; omega⟩
        · have hle : ((m + i : Nat) : Int) ≤ ((m + r : Nat) : Int) := by omega
          have HE : Hid (ps ++ side (m : Int) (i + 1) = ps ++ side (m : Int) i ++ [((m + i : Nat) : Int)]) := by
            unfold Hid
            rw [side_succ, List.append_assoc]; simp
          generalize ps ++ side (m : Int) i = ps6 at *
          generalize hmi : m + i = mi at *
          go_wp2_with (at_builtin; refine wpList_appq w wr g rfl (.tmp 53) (.tmp 55) rfl _ ps6 mi h8.out.1 rfl rfl hlen6 ?_; intro a2 c2 w5 hS5 f5; have H9 := hide (And.intro hS5 (h8.out.2.keep f5 (by omega) (by omega))); clear hS5 f5)
          go_round
          case rel => exact ⟨i + 1, by go_num, by omega, by unfold Hid; rw [HE.out]; exact ⟨by simpa using H9.out.1, H9.out.2⟩⟩
          case measure => simp [intOf]; omega
end Go.Proofs.YtidhcmhheohciaaDoor
