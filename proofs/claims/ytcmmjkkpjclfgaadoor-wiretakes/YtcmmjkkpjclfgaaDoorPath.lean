import Derived.Test.YtcmmjkkpjclfgaaDoorOuter
namespace Go.Proofs.YtcmmjkkpjclfgaaDoor
open Go.RowKit Go.Extern.Stop Go.Stop Go.Extern

theorem catch_idle2 (p : Addr) (w : World) :
    CallsD Tryd.prog 103 #[.pointer (some p)] .returning w fun e u' w' => e = .returned (.tuple #[]) ∧ u' = .returning ∧ w' = w := by
  refine callsD_of_wpS Tryd.func103 rfl fun c₀ cs hu => ?_
  apply wpS_seq
  apply wpS_region
  simp [wpOpsS, go_sem, recoverD, hu, Tryd.ntmps103, Exit.thenS]
  refine wpS_cond (t := false) (by simp [Act.eval, Array.replicate]) ?_
  simp only [Bool.false_eq_true, if_false]
  refine wpS_of_wp (wp_skip ?_)
  cases c₀
  simp_all [bodyPostS, results, Tryd.results103]

set_option maxRecDepth 100000 in
set_option maxHeartbeats 1000000 in
theorem outer_placed (e : Addr) (w : World) (hG : Glob w) :
    Calls Tryd.prog 72 #[.iface 111 (.pointer (some e))] w fun ev w' => ev = .returned (.pointer (some e)) ∧ Fr (fun _ => False) w w' := by
  have hmf : ∀ (fn : Fn) (first cap : Array Value) (w : World), (Instr.makeFunc fn first cap).run Tryd.prog w = .ok (.func fn first cap) w := fun _ _ _ _ => rfl
  have hF : Fr (fun _ => False) w (w.alloc (.cells #[.pointer none] 111)) := (Fr.refl _ w).alloc _
  have C := As_placed 111 (.pointer (some e)) ⟨w.heap.size, 0, none⟩ (w.alloc (.cells #[.pointer none] 111)) true (fun w' => ∃ w1, Fr (fun _ => False) (w.alloc (.cells #[.pointer none] 111)) w1 ∧ w' = w1.setCell ⟨w.heap.size, 0, none⟩ (.pointer (some e))) (hG.keep hF (fun h => h)) (by simp)
    (fun a W f ha hfz => (as_placed e _ a (.pointer none) W ha (f.cell (by simp) (fun h => h)) (by rw [hfz]; simp)).mono fun ev w' ⟨h1, w1, h2, h3⟩ => ⟨h1, w1, f.trans h2, h3⟩)
  clear hG
  go_enter_defers Tryd.func72, Tryd.ntmps72
  go_wp2_with fail
  refine C.mono ?_
  rintro ev w' ⟨rfl, w1, hw1, rfl⟩
  have hc1 : w1.cell? ⟨w.heap.size, 0, none⟩ = some (.pointer none) := hw1.cell (by simp) (fun h => h)
  have hz1 : w1.frozen? ⟨w.heap.size, 0, none⟩ = false := by
    rw [World.frozen?_of_block (w := w.alloc (.cells #[.pointer none] 111)) (hw1.block w.heap.size (by simp) (fun h => h))]; simp
  have HF : Hid (Fr (fun _ => False) w w1) := hF.trans hw1
  clear C hF hw1
  go_wp2
  refine leaves_cons (f := 103) (args := #[.pointer (some ⟨w.heap.size, 0, none⟩)]) (by simp) (by simp [go_sem]) ?_
  refine (catch_idle2 ⟨w.heap.size, 0, none⟩ _).mono ?_
  rintro e' u' w'' ⟨rfl, rfl, rfl⟩
  have hF2 : Fr (fun _ => False) w ((w1.setCell ⟨w.heap.size, 0, none⟩ (.pointer (some e))).setCell ⟨w.heap.size, 0, none⟩ (.pointer (some e))) := (HF.out.setCell _ (fun h => absurd h (Nat.lt_irrefl _)) _).setCell _ (fun h => absurd h (Nat.lt_irrefl _)) _
  simp [Leaves, settle, results, Tryd.results72, go_sem, hc1]
  exact hF2

set_option maxRecDepth 100000 in
set_option maxHeartbeats 1000000 in
theorem outer_errno (k : Int) (w : World) (hG : Glob w) :
    Calls Tryd.prog 72 #[.iface 29 (.int .i64 k)] w fun ev w' => ev = .returned (.pointer none) ∧ Fr (fun _ => False) w w' := by
  have hmf : ∀ (fn : Fn) (first cap : Array Value) (w : World), (Instr.makeFunc fn first cap).run Tryd.prog w = .ok (.func fn first cap) w := fun _ _ _ _ => rfl
  have hF : Fr (fun _ => False) w (w.alloc (.cells #[.pointer none] 111)) := (Fr.refl _ w).alloc _
  have C := As_placed 29 (.int .i64 k) ⟨w.heap.size, 0, none⟩ (w.alloc (.cells #[.pointer none] 111)) false (fun w' => Fr (fun _ => False) (w.alloc (.cells #[.pointer none] 111)) w') (hG.keep hF (fun h => h)) (by simp)
    (fun a W f _ _ => (as_errno k _ a W).mono fun ev w' ⟨h1, h2⟩ => ⟨h1, f.trans h2⟩)
  clear hG
  go_enter_defers Tryd.func72, Tryd.ntmps72
  go_wp2_with fail
  refine C.mono ?_
  rintro ev w1 ⟨rfl, hw1⟩
  have hc1 : w1.cell? ⟨w.heap.size, 0, none⟩ = some (.pointer none) := hw1.cell (by simp) (fun h => h)
  have hz1 : w1.frozen? ⟨w.heap.size, 0, none⟩ = false := by
    rw [World.frozen?_of_block (w := w.alloc (.cells #[.pointer none] 111)) (hw1.block w.heap.size (by simp) (fun h => h))]; simp
  have HF : Hid (Fr (fun _ => False) w w1) := hF.trans hw1
  clear C hF hw1
  go_wp2
  refine leaves_cons (f := 103) (args := #[.pointer (some ⟨w.heap.size, 0, none⟩)]) (by simp) (by simp [go_sem]) ?_
  refine (catch_idle2 ⟨w.heap.size, 0, none⟩ _).mono ?_
  rintro e' u' w'' ⟨rfl, rfl, rfl⟩
  have hF2 : Fr (fun _ => False) w (w1.setCell ⟨w.heap.size, 0, none⟩ (.pointer none)) := HF.out.setCell _ (fun h => absurd h (Nat.lt_irrefl _)) _
  simp [Leaves, settle, results, Tryd.results72, go_sem, hc1]
  exact hF2

/-- what outermost tells of an error that wraps u with the places ps -/
def PtrOf (w : World) : List Int → Value → Value → Prop
  | [], pv, _ => pv = .pointer none
  | p :: ps, pv, u => ∃ g x, pv = .pointer (some ⟨g, 0, none⟩) ∧ w.heap[g]? = some (Obj.cells #[.int .i64 p, x] 114 (0, 0)) ∧ Wraps w ps x u
theorem PtrOf.keep {w w' : World} {ps : List Int} {pv u : Value} (h : PtrOf w ps pv u) (f : Fr (fun _ => False) w w') : PtrOf w' ps pv u := by
  cases ps with
  | nil => exact h
  | cons p ps =>
    obtain ⟨g, x, h1, h2, h3⟩ := h
    exact ⟨g, x, h1, f.heap h2 (fun h => h), h3.keep (fun k _ hk => f.block k (heap_lt hk) (fun h => h))⟩
/-- the innermost error: no place is in it -/
def NoPlace (T0 : TypeId) (x0 : Value) : Prop :=
  ∀ W : World, Glob W → Calls Tryd.prog 72 #[.iface T0 x0] W fun ev w' => ev = .returned (.pointer none) ∧ Fr (fun _ => False) W w'
theorem noPlace_errno (k : Int) : NoPlace 29 (.int .i64 k) := fun W hG => outer_errno k W hG
theorem outer_wraps {T0 : TypeId} {x0 : Value} (hend : NoPlace T0 x0) (ps : List Int) (v : Value) (w : World) (hG : Glob w) (h : Wraps w ps v (.iface T0 x0)) :
    Calls Tryd.prog 72 #[v] w fun ev w' => ∃ pv, ev = .returned pv ∧ PtrOf w' ps pv (.iface T0 x0) ∧ Fr (fun _ => False) w w' := by
  cases ps with
  | nil =>
    obtain rfl := h
    exact (hend w hG).mono fun ev w' ⟨h1, h2⟩ => ⟨_, h1, rfl, h2⟩
  | cons p ps =>
    obtain ⟨g, x, rfl, h2, h3⟩ := h
    refine (outer_placed ⟨g, 0, none⟩ w hG).mono fun ev w' ⟨e1, e2⟩ => ⟨_, e1, ?_, e2⟩
    exact PtrOf.keep ⟨g, x, rfl, h2, h3⟩ e2
theorem PtrOf.ptr {w : World} {ps : List Int} {pv u : Value} (h : PtrOf w ps pv u) : ∃ a, pv = .pointer a := by
  cases ps with
  | nil => exact ⟨_, h⟩
  | cons p ps => obtain ⟨g, x, h1, _⟩ := h; exact ⟨_, h1⟩

theorem Tryd.info3p : (Tryd.prog.info? 3).map (fun i => (i.zero, i.size, i.bytes)) = some (some (.int .i64 0), 1, 8) := by kernel_rfl
/-- at a round's head of Path's loop -/
structure PathSt (w wr : World) (ps rest : List Int) (a : Option Addr) (n c : Nat) (pv u : Value) : Prop where
  sp : ∃ don : List Int, ps = don ++ rest ∧ n = don.length ∧ wr.ownsRow 0 3 1 (.slice a n c) n (I64 don)
  fresh : ∀ b, (Value.slice a n c).ownBlock = some b → w.heap.size ≤ b
  pt : PtrOf wr rest pv u
  fr : Fr (fun _ => False) w wr

theorem grow_keep {wr w2 : World} {v : Value} {n : Nat} {xs : List Value} {o : Obj} (h : wr.ownsRow 0 3 1 v n xs) (hg : (wr.alloc o).grownBy w2 v.ownBlock) (k : Nat) (c : Array Value) (hk : wr.heap[k]? = some (Obj.cells c 114 (0, 0))) : w2.heap[k]? = wr.heap[k]? := by
  have hlt := heap_lt hk
  have hne : some k ≠ v.ownBlock := by
    rcases h.2 with ⟨rfl, _⟩ | ⟨g, cap, cur, rfl, _, hgc, _⟩
    · simp [Value.ownBlock]
    · intro e
      simp only [Value.ownBlock, Option.some.injEq] at e
      subst e
      rw [hgc] at hk
      simp at hk
  exact (hg.block k (by simp; omega) hne).trans (Below.heap_alloc wr o k hlt)
theorem path_step {w wr w2 : World} {ps don rest : List Int} {p : Int} {a a' : Option Addr} {n c c' S : Nat} {pv u : Value} {o : Obj} (h : PathSt w wr ps (p :: rest) a n c pv u) (_hown : wr.ownsRow 0 3 1 (.slice a n c) n (I64 don)) (hn : n = don.length)
    (hps : ps = don ++ p :: rest) (hg : (wr.alloc o).grownBy w2 (Value.slice a n c).ownBlock) (ho : w2.ownsRow 0 3 1 (.slice a' (n + 1) c') (n + 1) (I64 don ++ [.int .i64 p])) (hS : S = wr.heap.size + 1)
    (hw : (Value.slice a' (n + 1) c').ownBlock = (Value.slice a n c).ownBlock ∨ (Value.slice a' (n + 1) c').ownBlock = some S) :
    Fr (fun _ => False) w w2 ∧ (∀ b, (Value.slice a' (n + 1) c').ownBlock = some b → w.heap.size ≤ b) ∧ ∃ don' : List Int, ps = don' ++ rest ∧ n + 1 = don'.length ∧ w2.ownsRow 0 3 1 (.slice a' (n + 1) c') (n + 1) (I64 don') := by
  refine ⟨(h.fr.alloc o).grown hg (fun k hk hlt => by have := h.fresh k hk; omega), fun b hb => ?_, don ++ [p], by simp [hps], by simp [hn], by simpa [I64] using ho⟩
  rcases hw with e | e
  · exact h.fresh b (e ▸ hb)
  · rw [e] at hb
    cases hb
    have := h.fr.size
    omega

set_option maxRecDepth 100000 in
set_option maxHeartbeats 1000000 in
theorem path_any {T0 : TypeId} {x0 : Value} (hend : NoPlace T0 x0) (ps : List Int) (v : Value) (w : World) (hG : Glob w) (h : Wraps w ps v (.iface T0 x0)) (hl : ps.length * 8 ≤ 140737488355328) :
    Calls Tryd.prog 19 #[v] w fun e w' => ∃ a c, e = .returned (.slice a ps.length c) ∧ w'.ownsRow 0 3 1 (.slice a ps.length c) ps.length (I64 ps) ∧ Fr (fun _ => False) w w' ∧ ∀ b, (Value.slice a ps.length c).ownBlock = some b → w.heap.size ≤ b := by
  have HE : Hid (NoPlace T0 x0) := hend
  have HG : Hid (Glob w) := hG
  have HL : Hid (ps.length * 8 ≤ 140737488355328) := hl
  have C := outer_wraps hend ps v w hG h
  clear hend hG hl h
  go_enter Tryd.func19, Tryd.ntmps19
  go_wp2_with fail
  refine C.mono ?_
  rintro e w1 ⟨pv, rfl, hp, hf⟩
  have S0 : Hid (PathSt w w1 ps ps none 0 0 pv (.iface T0 x0)) := ⟨⟨[], rfl, rfl, World.ownsRow_nil _ _ _ _⟩, (fun b hb => by cases hb), hp, hf⟩
  clear C hp hf
  go_wp2_with fail
  go_loopg [3, 4] ps.length (fun k sl pv wr => ∃ rest a n c, k = rest.length ∧ sl = .slice a n c ∧ Hid (PathSt w wr ps rest a n c pv (.iface T0 x0)))
  case atStart => exact ⟨ps, none, 0, 0, rfl, rfl, S0⟩
  case round =>
    obtain ⟨rest, a, n, c, rfl, rfl, hS⟩ := hrel
    obtain ⟨don, hps, hn, hown⟩ := hS.out.sp
    cases rest with
    | nil =>
      obtain rfl := hS.out.pt
      have HD : Hid (don = ps ∧ n = ps.length) := by subst hps; unfold Hid; simpa using hn
      clear hps hn S0
      go_wp2
      go_ret
      refine ⟨a, c, by rw [← HD.out.2]; rfl, ?_, hS.out.fr, fun b hb => hS.out.fresh b (by rw [HD.out.2]; exact hb)⟩
      rw [HD.out.2, HD.out.1] at hown
      exact hown
    | cons p rest =>
      obtain ⟨g, x, rfl, hg, hx⟩ := hS.out.pt
      have c0 : wr.cell? ⟨g, 0, none⟩ = some (.int .i64 p) := by simp [World.cell?, hg]
      have c1 : wr.cell? ⟨g, 1, none⟩ = some x := by simp [World.cell?, hg]
      obtain ⟨i0, hi, hz0, hz1, hz2⟩ := info_parts Tryd.info3p
      have HN : Hid ((n + 1) * 8 ≤ 140737488355328 ∧ n = don.length ∧ ps = don ++ p :: rest) := by
        refine ⟨?_, hn, hps⟩
        have := HL.out
        rw [hps] at this
        simp at this
        omega
      have hgl := heap_lt hg
      have HGr : Hid (wr.heap[g]? = some (Obj.cells #[.int .i64 p, x] 114 (0, 0))) := hg
      have HX : Hid (Wraps wr rest x (.iface T0 x0)) := hx
      obtain ⟨Tx, xx, rfl⟩ := hx.iface
      clear hps hn hg hx S0
      go_wp2_with (at_builtin; refine wpList_append_where _ rfl (.tmp 14) (.tmp 19) 25 rfl 3 i0 (.int .i64 0) 1 8 Tryd.underlying25 hi hz0 hz1 hz2 rfl (by decide) (.slice a n c) n (I64 don) rfl (hown.alloc _) ⟨wr.heap.size, 0, none⟩ 1 1 [.int .i64 p] rfl rfl (cell_one_new _ _ _) ?c2 ?c3 ?c4 ?_)
      case c2 => intro u hu; simp at hu; subst hu; rfl
      case c3 => unfold maxLen; have := HN.out.1; omega
      case c4 => exact HN.out.1
      intro a' c' w2 hown' hgrow hwh
      have hkeep := grow_keep hown hgrow
      have R := path_step hS.out hown HN.out.2.1 HN.out.2.2 hgrow hown' (by simp) hwh
      have d1 : w2.cell? ⟨g, 1, none⟩ = some (.iface Tx xx) := by
        have : w2.heap[g]? = some (Obj.cells #[.int .i64 p, .iface Tx xx] 114 (0, 0)) := (hkeep g _ HGr.out).trans HGr.out
        simp [World.cell?, this]
      have D := outer_wraps HE.out rest (.iface Tx xx) w2 (HG.out.keep R.1 (fun h => h)) (HX.out.keep hkeep)
      have HR : Hid (Fr (fun _ => False) w w2 ∧ (∀ b, (Value.slice a' (n + 1) c').ownBlock = some b → w.heap.size ≤ b) ∧ ∃ don' : List Int, ps = don' ++ rest ∧ n + 1 = don'.length ∧ w2.ownsRow 0 3 1 (.slice a' (n + 1) c') (n + 1) (I64 don')) := R
      clear R hkeep hgrow hown' hwh hown hi hS HGr HX c0 c1
      go_wp2_with fail
      refine D.mono ?_
      rintro e w3 ⟨pv3, rfl, hp3, hf3⟩
      have HP : Hid (PathSt w w3 ps rest a' (n + 1) c' pv3 (.iface T0 x0)) := by
        obtain ⟨r1, r2, don', r3, r4, r5⟩ := HR.out
        exact ⟨⟨don', r3, r4, ownsRow_heap r5 (fun k hk => hf3.block k (r5.lt k hk).2 (fun h => h))⟩, r2, hp3, r1.trans hf3⟩
      clear D hp3 hf3 HR
      go_wp2
      go_roundg rest.length
      case rel => exact ⟨rest, a', n + 1, c', rfl, rfl, HP⟩
      case measure => simp
end Go.Proofs.YtcmmjkkpjclfgaaDoor
