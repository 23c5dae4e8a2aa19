import Derived.Test.YtcmmjkkpjclfgaaDoorTells
import Derived.Test.YtcmmjkkpjclfgaaDoorRaw
import Derived.Deep.RegionHeld3
import Derived.Deep.DeepCutAuto
namespace Go.Proofs.YtcmmjkkpjclfgaaDoor
open Go.RowKit

/-- append onto an owned row of one-cell elements, of a slice that may be nil -/
theorem wpList_append_row {P : Program} (w : World) {ops : Array Oper} {rest : List Oper} {o : Oper} {a : Act} {Q : Exit → Act → World → Prop} (hgd : o.guard = none) (s x : Operand) (t : TypeId)
    (ho : o.op = .call { callee := .builtin .append, args := #[s, x], argTypes := #[t, t] })
    (e : TypeId) (i : TypeInfo) (z : Value) (bytes : Nat) (ht : P.underlying t = some (.slice e)) (hi : P.info? e = some i) (hz : i.zero = some z)
    (hsize : i.size = 1) (hby : i.bytes = bytes) (hzs : z.cells.size = 1)
    (a1 : Option Addr) (n c1 : Nat) (xs : List Value) (hs : a.eval s = .slice a1 n c1) (hown : w.ownsRow 0 e 1 (.slice a1 n c1) n xs)
    (b : Option Addr) (m cb : Nat) (news : List Value) (hx : a.eval x = .slice b m cb) (hb : b = none → cb = 0) (hl : news.length = m) (hrow : Row w b news) (h1 : ∀ u ∈ news, u.oneCell' = true)
    (h63 : n + m ≤ maxLen) (hbytes : (n + m) * bytes ≤ 140737488355328)
    (h : ∀ a' c' w', w'.ownsRow 0 e 1 (.slice a' (n + m) c') (n + m) (xs ++ news) → Fr (fun k => some k = (Value.slice a1 n c1).ownBlock) w w' → ((Value.slice a' (n + m) c').ownBlock = (Value.slice a1 n c1).ownBlock ∨ (Value.slice a' (n + m) c').ownBlock = some w.heap.size) → wpList P ops Q rest (a.put o.dst (.slice a' (n + m) c')) w') : wpList P ops Q (o :: rest) a w := by
  rcases hrow with ⟨rfl, rfl⟩ | ⟨ad, rfl, hc⟩
  · obtain rfl := hb rfl
    obtain rfl : m = 0 := by simpa using hl.symm
    refine wpList_append_none w hgd s x t ho (.slice a1 n c1) hs hx (fun ty => run_append_owned_none w 0 t ty e i 1 ht hi _ _ _ hown) ?_
    have := h a1 c1 w (by simpa using hown) (Fr.refl _ _) (.inl rfl)
    exact this
  · exact wpList_append_where w hgd s x t ho e i z 1 bytes ht hi hz hsize hby hzs (by decide) (.slice a1 n c1) n xs hs hown ad m cb news hx (by omega) hc h1 h63 hbytes
      (fun a' c' w' q1 q2 q3 => h a' c' w' q1 ((Fr.refl _ w).grown q2 (fun _ hk _ => hk.symm)) q3)

/-- a row of a [][]int: its address, length, capacity, numbers up to the capacity -/
structure RowI where
  a : Option Addr
  len : Nat
  cap : Nat
  zs : List Int
def RowI.val (r : RowI) : Value := .slice r.a r.len r.cap
def RowI.cut (r : RowI) : List Int := r.zs.take (min r.len 6)
def RowI.Ok (w : World) (r : RowI) : Prop := Row w r.a (I64 r.zs) ∧ r.zs.length = r.cap ∧ r.len ≤ r.cap ∧ (r.a = none → r.cap = 0) ∧ r.cap * 8 ≤ 140737488351232
def accK (rs : List RowI) : Nat → List Int
  | 0 => []
  | k + 1 => (match rs[k]? with | some r => r.cut | none => []) ++ accK rs k
theorem cut_len (r : RowI) : r.cut.length ≤ 6 := by unfold RowI.cut; simp; omega
theorem accK_len (rs : List RowI) : ∀ k, (accK rs k).length ≤ 6 * k
  | 0 => by simp [accK]
  | k + 1 => by
    have := accK_len rs k
    unfold accK
    rw [List.length_append]
    split
    · rename_i r _; have := cut_len r; omega
    · simp; omega
theorem i64_one (ps : List Int) : ∀ u ∈ I64 ps, u.oneCell' = true := by
  intro u hu; simp [I64] at hu; obtain ⟨x, _, rfl⟩ := hu; rfl
theorem i64_len (ps : List Int) : (I64 ps).length = ps.length := by simp [I64]
theorem take_rowi {w : World} {a : Option Addr} {zs : List Int} (h : Row w a (I64 zs)) (m : Nat) : Row w a (I64 (zs.take m)) := by
  rcases h with ⟨rfl, h⟩ | ⟨x, rfl, h⟩
  · have e : zs = [] := List.eq_nil_of_length_eq_zero (by rw [← i64_len, h]; rfl)
    exact .inl ⟨rfl, by simp [e, I64]⟩
  · refine .inr ⟨x, rfl, fun j u hj => h j u ?_⟩
    simp only [I64, List.getElem?_map, List.getElem?_take] at hj ⊢
    split at hj
    · exact hj
    · simp at hj
theorem row_fr {w w' : World} {a : Option Addr} {vs : List Value} (h : Row w a vs) (f : Fr (fun _ => False) w w') : Row w' a vs := h.keep f (fun _ _ h => h)
theorem own_rowi {w : World} {a : Option Addr} {n c : Nat} {xs : List Int} (ho : w.ownsRow 0 3 1 (.slice a n c) n (I64 xs)) : Row w a (I64 xs) ∧ (a = none → c = 0) := by
  refine ⟨own_row3 ho, fun e => ?_⟩
  subst e
  rcases ho.2 with ⟨h, _⟩ | ⟨g, cap, cur, h, _⟩
  · simp only [Value.slice.injEq] at h; exact h.2.2
  · cases h

/-- at a round's head -/
structure MadeSt (w wr : World) (ps : List Int) (v : Value) (k0 : Int) (a : Option Addr) (n c : Nat) : Prop where
  err : Wraps wr ps v (.iface 29 (.int .i64 k0))
  own : n = ps.length ∧ wr.ownsRow 0 3 1 (.slice a n c) n (I64 ps)
  fr : Fr (fun _ => False) w wr

set_option maxRecDepth 100000 in
set_option maxHeartbeats 1000000 in
theorem made_any (k0 : Int) (a0 : Option Addr) (c0 : Nat) (rs : List RowI) (w : World) (hr : Row w a0 (rs.map RowI.val)) (hok : ∀ r ∈ rs, r.Ok w) (hmax : rs.length ≤ 140737488355328) :
    Calls Tryd.prog 15 #[.int .i64 k0, .slice a0 rs.length c0] w fun e w' => ∃ v a c, e = .returned (.tuple #[v, .slice a (accK rs (min rs.length 8)).length c]) ∧ MadeSt w w' (accK rs (min rs.length 8)) v k0 a (accK rs (min rs.length 8)).length c := by
  have HR : Hid (Row w a0 (rs.map RowI.val) ∧ ∀ r ∈ rs, r.Ok w) := ⟨hr, hok⟩
  have hml : (rs.length : Int) ≤ 140737488355328 := by omega
  have S0 : Hid (MadeSt w w [] (.iface 29 (.int .i64 k0)) k0 none 0 0) := ⟨rfl, ⟨rfl, World.ownsRow_nil _ _ _ _⟩, Fr.refl _ _⟩
  obtain ⟨i0, hi, hz0, hz1, hz2⟩ := info_parts Tryd.info3p
  clear hr hok hmax
  go_enter Tryd.func15, Tryd.ntmps15
  go_wp2_with fail
  go_loopw [6, 7, 8, 9] (fun ev sl ix r9 wr => ∃ (k : Nat) (a : Option Addr) (c : Nat), ix = .int .i64 k ∧ k ≤ rs.length ∧ k ≤ 8 ∧ sl = .slice a (accK rs k).length c ∧ Hid (MadeSt w wr (accK rs k) ev k0 a (accK rs k).length c)) (fun _ _ i _ _ => 8 - (intOf i).toNat)
  case atStart => exact ⟨0, none, 0, rfl, Nat.zero_le _, Nat.zero_le _, rfl, S0⟩
  case round =>
    obtain ⟨k, a, c, rfl, hk, hk8, rfl, hS⟩ := hrel
    obtain ⟨Te, xe, rfl⟩ := hS.out.err.iface
    clear S0
    by_cases hlt : k < rs.length ∧ k < 8
    · have k1 : (k : Int) < rs.length := by omega
      have k2 : (k : Int) < 8 := by omega
      have k3 : (0 : Int) ≤ k := by omega
      obtain ⟨r, hrk⟩ : ∃ r, rs[k]? = some r := ⟨rs[k]'hlt.1, by simp [hlt.1]⟩
      have hmem : r ∈ rs := List.mem_of_getElem? hrk
      have hO := HR.out.2 r hmem
      have hv : (rs.map RowI.val)[k]? = some r.val := by simp [hrk]
      obtain ⟨b, o, rfl, hcell⟩ := (row_fr HR.out.1 hS.out.fr).at hv
      have HO : Hid (r.Ok w ∧ accK rs (k + 1) = r.cut ++ accK rs k) := ⟨hO, by simp [accK, hrk]⟩
      obtain ⟨ra, rl, rc, rz⟩ := r
      have hcell' : wr.cell? ⟨b, o + k, none⟩ = some (.slice ra rl rc) := hcell
      have b1 : (rl : Int) ≤ rc := by have := hO.2.2.1; simp at this; omega
      have b2 : (rc : Int) ≤ 140737488355328 := by have := hO.2.2.2.2; simp at this; omega
      clear hrk hmem hO hv hcell
      obtain ⟨m, hm⟩ : ∃ m, m = min rl 6 := ⟨_, rfl⟩
      have HMn : Hid (m = min rl 6) := hm
      clear hm
      go_upto_region 6 with fail
      go_cut [9] (fun u wx => u = .slice ra m rc ∧ ∃ j, wx = wr.drewN j)
      case first =>
        by_cases h6 : rl ≤ 6
        · have h6' : ¬ (6 : Int) < rl := by omega
          have HE : Hid (m = rl) := by have := HMn.out; unfold Hid; omega
          rcases ra with _ | x
          · have hrc : rc = 0 := HO.out.1.2.2.2.1 rfl
            subst hrc
            obtain rfl : rl = 0 := by omega
            go_region_held3 (fun w' => w'.cell? ⟨b, o + k, none⟩ = some (.slice none 0 0)) (go_keep) (fail)
            go_wp2
            go_meet
            case rel => exact ⟨by rw [HE.out], _, rfl⟩
          · go_region_held3 (fun w' => w'.cell? ⟨b, o + k, none⟩ = some (.slice (some x) rl rc)) (go_keep) (fail)
            go_wp2
            go_meet
            case rel => exact ⟨by rw [HE.out], _, rfl⟩
        · have h6' : (6 : Int) < rl := by omega
          have h6c : (6 : Int) ≤ rc := by omega
          have HE : Hid (m = 6) := by have := HMn.out; unfold Hid; omega
          rcases ra with _ | x
          · have hrc : rc = 0 := HO.out.1.2.2.2.1 rfl
            omega
          · go_region_held3 (fun w' => w'.cell? ⟨b, o + k, none⟩ = some (.slice (some x) rl rc)) (go_keep) (fail)
            go_wp2
            go_meet
            case rel => exact ⟨by rw [HE.out], _, rfl⟩
      case rest =>
        obtain ⟨rfl, j, rfl⟩ := hcut
        have fj : Fr (fun _ => False) wr (wr.drewN j) := Fr.ofBelow ⟨rfl, rfl, rfl, Nat.le_refl _, fun _ _ => rfl⟩
        obtain ⟨ps, hps⟩ : ∃ ps, ps = rz.take m := ⟨_, rfl⟩
        have HP : Hid (ps.length = m ∧ Row w ra (I64 ps) ∧ accK rs (k + 1) = ps ++ accK rs k ∧ m ≤ 6 ∧ (ra = none → rc = 0)) := by
          have h1 := HO.out.1
          have h2 := HO.out.2
          have h3 := HMn.out
          subst hps
          refine ⟨?_, take_rowi h1.1 m, ?_, by omega, h1.2.2.2.1⟩
          · have := h1.2.1; have := h1.2.2.1; simp at *; omega
          · rw [h2]; unfold RowI.cut; simp only; rw [h3]
        have Sj : Hid (MadeSt w (wr.drewN j) (accK rs k) (.iface Te xe) k0 a (accK rs k).length c) :=
          ⟨hS.out.err.fr fj, ⟨rfl, ownsRow_heap hS.out.own.2 (fun _ _ => rfl)⟩, hS.out.fr.trans fj⟩
        have D := at_any ps Te xe ra rc (wr.drewN j) (row_fr HP.out.2.1 Sj.out.fr) (by have := HP.out.1; have := HP.out.2.2.2.1; omega)
        rw [HP.out.1] at D
        have hal := accK_len rs k
        have HAL : Hid ((accK rs k).length ≤ 48) := by unfold Hid; omega
        clear fj hps hS HO HMn hcell' hal
        go_wp2_with fail
        refine D.mono ?_
        rintro e w1 ⟨v1, rfl, hv1, hf1⟩
        have H1 : Hid (Wraps w1 (accK rs (k + 1)) v1 (.iface 29 (.int .i64 k0)) ∧ w1.ownsRow 0 3 1 (.slice a (accK rs k).length c) (accK rs k).length (I64 (accK rs k)) ∧ Fr (fun _ => False) w w1) := by
          refine ⟨?_, ownsRow_heap Sj.out.own.2 (fun q hq => hf1.block q (Sj.out.own.2.lt q hq).2 (fun h => h)), Sj.out.fr.trans hf1⟩
          rw [HP.out.2.2.1]
          exact hv1.trans (Sj.out.err.fr hf1)
        clear D hv1 hf1 Sj
        have hown0 : (w1.alloc (.cells #[] 3)).ownsRow 0 3 1 (.slice (some ⟨w1.heap.size, 0, none⟩) 0 0) 0 [] := World.ownsRow_lit w1 #[] 0 (Nat.zero_le _) (Nat.zero_le _) rfl
        have hrow0 : Row (w1.alloc (.cells #[] 3)) ra (I64 ps) := row_fr HP.out.2.1 (H1.out.2.2.alloc _)
        go_wp2_with (at_builtin; refine wpList_append_row _ rfl (.tmp 36) (.tmp 37) 25 rfl 3 i0 (.int .i64 0) 8 Tryd.underlying25 hi hz0 hz1 hz2 rfl (some ⟨w1.heap.size, 0, none⟩) 0 0 [] rfl hown0 ra m rc (I64 ps) rfl HP.out.2.2.2.2 (by rw [i64_len]; exact HP.out.1) hrow0 (i64_one ps) ?c1 ?c2 ?_)
        case c1 => unfold maxLen; have := HP.out.2.2.2.1; omega
        case c2 => have := HP.out.2.2.2.1; omega
        intro a2 c2 w2 ho2 hf2 hw2
        have H2 : Hid (Wraps w2 (accK rs (k + 1)) v1 (.iface 29 (.int .i64 k0)) ∧ w2.ownsRow 0 3 1 (.slice a (accK rs k).length c) (accK rs k).length (I64 (accK rs k)) ∧ Fr (fun _ => False) w w2) := by
          have f : Fr (fun _ => False) w1 w2 := ((Fr.refl _ w1).alloc _).trans' hf2 (fun _ _ h => h) (fun q hq e => by
            simp only [Value.ownBlock, Option.some.injEq] at e
            omega)
          exact ⟨H1.out.1.fr f, ownsRow_heap H1.out.2.1 (fun q hq => f.block q (H1.out.2.1.lt q hq).2 (fun h => h)), H1.out.2.2.trans f⟩
        have ho2' : w2.ownsRow 0 3 1 (.slice a2 m c2) m (I64 ps) := by simpa using ho2
        have hlo : ∀ q, (Value.slice a2 m c2).ownBlock = some q → w1.heap.size ≤ q := by
          intro q hq
          rcases hw2 with h | h
          · rw [h] at hq; simp only [Value.ownBlock, Option.some.injEq] at hq; omega
          · rw [h] at hq; simp at hq; omega
        have HLO : Hid (∀ q, (Value.slice a2 m c2).ownBlock = some q → w1.heap.size ≤ q) := hlo
        have hs1 := H1.out.2.2.size
        have hall := own_rowi H2.out.2.1
        clear ho2 hf2 hw2 hlo hown0 hrow0 H1
        go_wp2_with (at_builtin; refine wpList_append_row _ rfl (.tmp 38) (.tmp 39) 25 rfl 3 i0 (.int .i64 0) 8 Tryd.underlying25 hi hz0 hz1 hz2 rfl a2 m c2 (I64 ps) rfl ho2' a (accK rs k).length c (I64 (accK rs k)) rfl hall.2 (i64_len _) hall.1 (i64_one _) ?c3 ?c4 ?_)
        case c3 => unfold maxLen; have := HP.out.2.2.2.1; have := HAL.out; omega
        case c4 => have := HP.out.2.2.2.1; have := HAL.out; omega
        intro a3 c3 w3 ho3 hf3 hw3
        have el : m + (accK rs k).length = (accK rs (k + 1)).length := by rw [HP.out.2.2.1, List.length_append, HP.out.1]
        have H3 : Hid (MadeSt w w3 (accK rs (k + 1)) v1 k0 a3 (accK rs (k + 1)).length c3) := by
          have f : Fr (fun _ => False) w w3 := H2.out.2.2.trans' hf3 (fun _ _ h => h) (fun q hq e => by have := HLO.out q e.symm; omega)
          have hk : ∀ (g : Nat) (cs : Array Value), w2.heap[g]? = some (Obj.cells cs 114 (0, 0)) → w3.heap[g]? = w2.heap[g]? := fun g cs hg => hf3.block g (heap_lt hg) (fun e => by
            rcases ho2'.2 with ⟨h, _⟩ | ⟨g', cap', cur', h, _, hgc, _⟩
            · rw [h] at e; simp [Value.ownBlock] at e
            · rw [h] at e
              simp only [Value.ownBlock, Option.some.injEq] at e
              subst e
              rw [hgc] at hg
              simp at hg)
          refine ⟨H2.out.1.keep hk, ⟨rfl, ?_⟩, f⟩
          rw [← el, HP.out.2.2.1]
          have : I64 (ps ++ accK rs k) = I64 ps ++ I64 (accK rs k) := by simp [I64]
          rw [this]
          exact ho3
        rw [el]
        clear el ho3 hf3 hw3 hall ho2' H2 HLO
        go_wp2
        go_roundw
        case rel => exact ⟨k + 1, a3, c3, by go_num, by omega, by omega, rfl, H3⟩
        case measure => simp [intOf]; omega
    · have HK : Hid (k = min rs.length 8) := by unfold Hid; omega
      by_cases hl : k < rs.length
      · have k1 : (k : Int) < rs.length := by omega
        have k2 : ¬ (k : Int) < 8 := by omega
        go_wp2
        go_ret2
        refine ⟨.iface Te xe, a, c, ?_, ?_⟩
        · rw [← HK.out]; rfl
        · rw [← HK.out]; exact hS.out
      · have k1 : ¬ (k : Int) < rs.length := by omega
        go_wp2
        go_ret2
        refine ⟨.iface Te xe, a, c, ?_, ?_⟩
        · rw [← HK.out]; rfl
        · rw [← HK.out]; exact hS.out
end Go.Proofs.YtcmmjkkpjclfgaaDoor
