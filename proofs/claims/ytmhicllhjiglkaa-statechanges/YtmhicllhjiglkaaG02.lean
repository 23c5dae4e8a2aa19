import Derived.Test.YtmhicllhjiglkaaG01
import Derived.OwnWalk
import Derived.Laws.OwnMore
import Derived.Test.YtmhicllhjiglkaaRows
import Derived.OpenShut
import Derived.ShutString
import Derived.ChangeOld
import Derived.WideKeyPair
import Derived.Deep.Slices
import Derived.Deep.Matrix
import Derived.ChangeSame
namespace Go.Proofs.Ytmhicllhjiglkaa
open Go.RowKit
/-- a Value as it stands -/
structure R where
  s : Int
  k : Bool
  n : Int
  lo : Int
  hi : Int
  p : Int
abbrev aR (x : R) : Value := .agg #[.int .i64 x.s, .bool x.k, .int .i64 x.n, .int .i64 x.lo, .int .i64 x.hi, .int .i64 x.p]
abbrev cR (x : R) : List Value := [.int .i64 x.s, .bool x.k, .int .i64 x.n, .int .i64 x.lo, .int .i64 x.hi, .int .i64 x.p]
def V.raw (x : V) : R := ⟨up x.s, x.k, x.n, x.lo, x.hi, up x.p⟩
/-- six cells at a place -/
structure B6 (w : World) (b o : Nat) (x : R) : Prop where
  c0 : w.cell? ⟨b, o, none⟩ = some (.int .i64 x.s)
  c1 : w.cell? ⟨b, o + 1, none⟩ = some (.bool x.k)
  c2 : w.cell? ⟨b, o + 2, none⟩ = some (.int .i64 x.n)
  c3 : w.cell? ⟨b, o + 3, none⟩ = some (.int .i64 x.lo)
  c4 : w.cell? ⟨b, o + 4, none⟩ = some (.int .i64 x.hi)
  c5 : w.cell? ⟨b, o + 5, none⟩ = some (.int .i64 x.p)
theorem B6.lt {w : World} {b o : Nat} {x : R} (h : B6 w b o x) : b < w.heap.size := World.block_lt_of_cell? w _ h.c0
theorem B6.of {w w' : World} {b o : Nat} {x : R} (h : B6 w b o x) (e : w'.heap[b]? = w.heap[b]?) : B6 w' b o x :=
  ⟨(World.cell?_of_block (a := ⟨b, o, none⟩) e).trans h.c0, (World.cell?_of_block (a := ⟨b, o + 1, none⟩) e).trans h.c1, (World.cell?_of_block (a := ⟨b, o + 2, none⟩) e).trans h.c2, (World.cell?_of_block (a := ⟨b, o + 3, none⟩) e).trans h.c3, (World.cell?_of_block (a := ⟨b, o + 4, none⟩) e).trans h.c4, (World.cell?_of_block (a := ⟨b, o + 5, none⟩) e).trans h.c5⟩
/-- a row of Values can be read -/
def RV (w : World) (a : Option Addr) (vs : List R) : Prop := ∀ m x, vs[m]? = some x → ∃ b o, a = some ⟨b, o, none⟩ ∧ B6 w b (o + m * 6) x
theorem RV.nil (w : World) (a : Option Addr) : RV w a [] := fun i x h => by simp at h
theorem RV.keep {w w' : World} {a : Option Addr} {vs : List R} (h : RV w a vs) (hb : Below w.heap.size w w') : RV w' a vs := fun m x hx => by
  obtain ⟨b, o, e, hc⟩ := h m x hx
  exact ⟨b, o, e, hc.of (hb.block b hc.lt)⟩
theorem RV.at {w : World} {a : Option Addr} {vs : List R} (h : RV w a vs) {m : Nat} (hm : m < vs.length) : ∃ b o x, vs[m]? = some x ∧ a = some ⟨b, o, none⟩ ∧ B6 w b (o + m * 6) x := by
  obtain ⟨b, o, e, hc⟩ := h m (vs[m]) (by simp [hm])
  exact ⟨b, o, _, by simp [hm], e, hc⟩
/-- a slice of numbers, as a value -/
def Rl (w : World) (e : Value) (l : List Int) : Prop := ∃ a c, e = .slice a l.length c ∧ Ri w a l ∧ l.length ≤ c ∧ (a = none → c = 0)
theorem Rl.keep {w w' : World} {e : Value} {l : List Int} (h : Rl w e l) (hb : Below w.heap.size w w') : Rl w' e l := by
  obtain ⟨a, c, h1, h2, h3⟩ := h
  exact ⟨a, c, h1, h2.keep' hb, h3⟩
/-- a row of slices of numbers can be read -/
def RR (w : World) (a : Option Addr) (ss : List (List Int)) : Prop := ∀ m l, ss[m]? = some l → ∃ b o e, a = some ⟨b, o, none⟩ ∧ w.cell? ⟨b, o + m, none⟩ = some e ∧ Rl w e l
theorem RR.nil (w : World) (a : Option Addr) : RR w a [] := fun i x h => by simp at h
theorem RR.keep {w w' : World} {a : Option Addr} {ss : List (List Int)} (h : RR w a ss) (hb : Below w.heap.size w w') : RR w' a ss := fun m x hx => by
  obtain ⟨b, o, e, h1, h2, h3⟩ := h m x hx
  exact ⟨b, o, e, h1, (hb.cell (p := ⟨b, o + m, none⟩) (World.block_lt_of_cell? w _ h2)).trans h2, h3.keep hb⟩
theorem RR.at {w : World} {a : Option Addr} {ss : List (List Int)} (h : RR w a ss) {m : Nat} (hm : m < ss.length) : ∃ b o l ai ci, ss[m]? = some l ∧ a = some ⟨b, o, none⟩ ∧ w.cell? ⟨b, o + m, none⟩ = some (.slice ai l.length ci) ∧ Ri w ai l ∧ l.length ≤ ci ∧ (ai = none → ci = 0) := by
  obtain ⟨b, o, e, h1, h2, ai, ci, rfl, h3⟩ := h m (ss[m]) (by simp [hm])
  exact ⟨b, o, _, ai, ci, by simp [hm], h1, h2, h3⟩
/-- a State -/
structure S where
  r : Bool
  vs : List R
  ss : List (List Int)
/-- a State as a value -/
def Rs (w : World) (v : Value) (s : S) : Prop := ∃ a c b d, v = .agg #[.bool s.r, .slice a s.vs.length c, .slice b s.ss.length d] ∧ RV w a s.vs ∧ RR w b s.ss ∧ s.vs.length ≤ c ∧ s.ss.length ≤ d ∧ (a = none → c = 0) ∧ (b = none → d = 0)
theorem Rs.keep {w w' : World} {v : Value} {s : S} (h : Rs w v s) (hb : Below w.heap.size w w') : Rs w' v s := by
  obtain ⟨a, c, b, d, h1, h2, h3, h4⟩ := h
  exact ⟨a, c, b, d, h1, h2.keep hb, h3.keep hb, h4⟩
/-- a State as a value, whose rows lie from block N on -/
def Rn (w : World) (N : Nat) (v : Value) (s : S) : Prop := ∃ a c b d, v = .agg #[.bool s.r, .slice a s.vs.length c, .slice b s.ss.length d] ∧
  (∀ (m : Nat) (x : R), s.vs[m]? = some x → ∃ b o, a = some ⟨b, o, none⟩ ∧ N ≤ b ∧ B6 w b (o + m * 6) x) ∧
  (∀ (m : Nat) (l : List Int), s.ss[m]? = some l → ∃ b' o e, b = some ⟨b', o, none⟩ ∧ N ≤ b' ∧ w.cell? ⟨b', o + m, none⟩ = some e ∧ Rl w e l ∧ ∀ k, e.ownBlock = some k → N ≤ k) ∧
  s.vs.length ≤ c ∧ s.ss.length ≤ d ∧ (a = none → c = 0) ∧ (b = none → d = 0)
theorem Rn.rs {w : World} {N : Nat} {v : Value} {s : S} (h : Rn w N v s) : Rs w v s := by
  obtain ⟨a, c, b, d, h1, h2, h3, h4⟩ := h
  refine ⟨a, c, b, d, h1, fun m x hx => ?_, fun m l hl => ?_, h4⟩
  · obtain ⟨b1, o1, e1, _, e2⟩ := h2 m x hx
    exact ⟨b1, o1, e1, e2⟩
  · obtain ⟨b1, o1, e, e1, _, e2, e3, _⟩ := h3 m l hl
    exact ⟨b1, o1, e, e1, e2, e3⟩
/-- it stays where no block from N on is another one -/
theorem Rn.of {w w' : World} {N : Nat} {v : Value} {s : S} (h : Rn w N v s) (hb : ∀ k, N ≤ k → k < w.heap.size → w'.heap[k]? = w.heap[k]?) : Rn w' N v s := by
  obtain ⟨a, c, b, d, h1, h2, h3, h4⟩ := h
  refine ⟨a, c, b, d, h1, fun m x hx => ?_, fun m l hl => ?_, h4⟩
  · obtain ⟨b1, o1, e1, e0, e2⟩ := h2 m x hx
    exact ⟨b1, o1, e1, e0, e2.of (hb b1 e0 e2.lt)⟩
  · obtain ⟨b1, o1, e, e1, e0, e2, ⟨ai, ci, rfl, k1, k2⟩, e4⟩ := h3 m l hl
    refine ⟨b1, o1, _, e1, e0, (World.cell?_of_block (a := ⟨b1, o1 + m, none⟩) (hb b1 e0 (World.block_lt_of_cell? w _ e2))).trans e2, ⟨ai, ci, rfl, fun i y hy => ?_, k2⟩, e4⟩
    obtain ⟨b2, o2, rfl, hc⟩ := k1 i y hy
    exact ⟨b2, o2, rfl, (World.cell?_of_block (a := ⟨b2, o2 + i, none⟩) (hb b2 (e4 b2 rfl) (World.block_lt_of_cell? w _ hc))).trans hc⟩
theorem Rn.keep {w w' : World} {N : Nat} {v : Value} {s : S} (h : Rn w N v s) (hb : Below w.heap.size w w') : Rn w' N v s := h.of (fun k _ hk => hb.block k hk)
theorem Rn.mono {w : World} {N M : Nat} {v : Value} {s : S} (h : Rn w N v s) (hm : M ≤ N) : Rn w M v s := by
  obtain ⟨a, c, b, d, h1, h2, h3, h4⟩ := h
  refine ⟨a, c, b, d, h1, fun m x hx => ?_, fun m l hl => ?_, h4⟩
  · obtain ⟨b1, o1, e1, e0, e2⟩ := h2 m x hx
    exact ⟨b1, o1, e1, Nat.le_trans hm e0, e2⟩
  · obtain ⟨b1, o1, e, e1, e0, e2, e3, e4⟩ := h3 m l hl
    exact ⟨b1, o1, e, e1, Nat.le_trans hm e0, e2, e3, fun k hk => Nat.le_trans hm (e4 k hk)⟩
theorem rn_none (w : World) (N : Nat) : Rn w N (.agg #[.bool false, .slice none 0 0, .slice none 0 0]) ⟨false, [], []⟩ := ⟨none, 0, none, 0, rfl, fun m x h => by simp at h, fun m x h => by simp at h, Nat.le_refl _, Nat.le_refl _, fun _ => rfl, fun _ => rfl⟩
/-- a State in a box -/
structure Bs (w : World) (q : Nat) (r : Bool) (va sa : Value) : Prop where
  c0 : w.cell? ⟨q, 0, none⟩ = some (.bool r)
  c1 : w.cell? ⟨q, 1, none⟩ = some va
  c2 : w.cell? ⟨q, 2, none⟩ = some sa
theorem Bs.lt {w : World} {q : Nat} {r : Bool} {va sa : Value} (h : Bs w q r va sa) : q < w.heap.size := World.block_lt_of_cell? w _ h.c0
theorem Bs.of {w w' : World} {q : Nat} {r : Bool} {va sa : Value} (h : Bs w q r va sa) (e : w'.heap[q]? = w.heap[q]?) : Bs w' q r va sa :=
  ⟨(World.cell?_of_block (a := ⟨q, 0, none⟩) e).trans h.c0, (World.cell?_of_block (a := ⟨q, 1, none⟩) e).trans h.c1, (World.cell?_of_block (a := ⟨q, 2, none⟩) e).trans h.c2⟩
theorem Bs.keep {w w' : World} {q : Nat} {r : Bool} {va sa : Value} (h : Bs w q r va sa) (hb : Below w.heap.size w w') : Bs w' q r va sa := h.of (hb.block q h.lt)
structure Fs (w : World) (q : Nat) : Prop where
  f0 : w.frozen? ⟨q, 0, none⟩ = false
  f1 : w.frozen? ⟨q, 1, none⟩ = false
  f2 : w.frozen? ⟨q, 2, none⟩ = false
theorem Fs.of {w w' : World} {q : Nat} (h : Fs w q) (e : w'.heap[q]? = w.heap[q]?) : Fs w' q :=
  ⟨(World.frozen?_of_block (a := ⟨q, 0, none⟩) e).trans h.f0, (World.frozen?_of_block (a := ⟨q, 1, none⟩) e).trans h.f1, (World.frozen?_of_block (a := ⟨q, 2, none⟩) e).trans h.f2⟩
theorem Bs.new (w : World) (r : Bool) (va sa : Value) (t : TypeId) : Bs (w.alloc (.cells #[.bool r, va, sa] t)) w.heap.size r va sa := ⟨by simp, by simp, by simp⟩
theorem Fs.new (w : World) (r : Bool) (va sa : Value) (t : TypeId) : Fs (w.alloc (.cells #[.bool r, va, sa] t)) w.heap.size := ⟨by simp [go_sem], by simp [go_sem], by simp [go_sem]⟩
theorem Bs.put1 {w : World} {q : Nat} {r : Bool} {va sa : Value} (h : Bs w q r va sa) (v : Value) : Bs (w.setCell ⟨q, 1, none⟩ v) q r v sa := by
  have c0 := h.c0
  have c1 := h.c1
  have c2 := h.c2
  refine ⟨?_, ?_, ?_⟩ <;> simp [go_sem, *]
theorem Bs.put2 {w : World} {q : Nat} {r : Bool} {va sa : Value} (h : Bs w q r va sa) (v : Value) : Bs (w.setCell ⟨q, 2, none⟩ v) q r va v := by
  have c0 := h.c0
  have c1 := h.c1
  have c2 := h.c2
  refine ⟨?_, ?_, ?_⟩ <;> simp [go_sem, *]
theorem Fs.put {w : World} {q : Nat} (h : Fs w q) (p : Addr) (v : Value) : Fs (w.setCell p v) q := ⟨by simpa using h.f0, by simpa using h.f1, by simpa using h.f2⟩
theorem set_block (w : World) (q o : Nat) (v : Value) (k : Nat) (h : k ≠ q) : (w.setCell ⟨q, o, none⟩ v).heap[k]? = w.heap[k]? := heap_setCell_other w ⟨q, o, none⟩ k v h
/-- the cells of a row of Values -/
def VR (vs : List R) : List Value := vs.flatMap cR
theorem VR_cons (x : R) (vs : List R) : VR (x :: vs) = cR x ++ VR vs := rfl
theorem VR_append (a b : List R) : VR (a ++ b) = VR a ++ VR b := by simp [VR]
theorem VR_len (vs : List R) : (VR vs).length = vs.length * 6 := by
  induction vs with
  | nil => rfl
  | cons x t ih => rw [VR_cons, List.length_append, ih]; simp; omega
theorem VR_at (x : R) (j : Nat) (hj : j < 6) : ∀ (vs : List R) (m : Nat), vs[m]? = some x → (VR vs)[m * 6 + j]? = (cR x)[j]? := by
  intro vs
  induction vs with
  | nil => intro m h; simp at h
  | cons y t ih =>
    intro m h
    rw [VR_cons]
    cases m with
    | zero =>
      obtain rfl : y = x := by simpa using h
      rw [List.getElem?_append_left (by simp; omega)]
      simp
    | succ m =>
      have h2 : t[m]? = some x := by simpa using h
      rw [List.getElem?_append_right (by simp; omega), ← ih m h2]
      congr 1
      simp; omega
theorem VR_one (vs : List R) : ∀ u ∈ VR vs, u.oneCell' = true := by
  intro u hu
  unfold VR at hu
  rw [List.mem_flatMap] at hu
  obtain ⟨x, _, hx⟩ := hu
  simp only [cR, List.mem_cons, List.not_mem_nil, or_false] at hx
  rcases hx with rfl | rfl | rfl | rfl | rfl | rfl <;> rfl
abbrev zV : Value := .agg #[.int .i64 0, .bool false, .int .i64 0, .int .i64 0, .int .i64 0, .int .i64 0]
theorem info53p : (Try.prog.info? 53).map (fun i => (i.zero, i.size, i.bytes)) = some (some zV, 6, 48) := by kernel_rfl
theorem info48p : (Try.prog.info? 48).map (fun i => (i.zero, i.size, i.bytes)) = some (some zV, 6, 48) := by kernel_rfl
theorem info38p : (Try.prog.info? 38).map (fun i => (i.zero, i.size, i.bytes)) = some (some (.slice none 0 0), 1, 24) := by kernel_rfl
theorem addr_none (b o n : Nat) : (⟨b, o, none⟩ : Addr).add n = ⟨b, o + n, none⟩ := by
  unfold Addr.add
  split
  · rename_i h; rw [h]; rfl
  · rfl
/-- a row of Values of the call's own -/
def OwV (w : World) (B : Nat) (T : TypeId) (v : Value) (vs : List R) : Prop := w.ownsRow B T 6 v vs.length (VR vs)
theorem OwV.of {w w' : World} {B : Nat} {T : TypeId} {v : Value} {vs : List R} (h : OwV w B T v vs) (hb : ∀ k, v.ownBlock = some k → w'.heap[k]? = w.heap[k]?) : OwV w' B T v vs := ownsRow_heap h hb
theorem OwV.slice {w : World} {B : Nat} {T : TypeId} {v : Value} {vs : List R} (h : OwV w B T v vs) : ∃ a c, v = .slice a vs.length c ∧ vs.length ≤ c ∧ (a = none → c = 0) := by
  rcases h.2 with ⟨rfl, h2⟩ | ⟨g, cap, cur, rfl, _, _, h3, _⟩
  · exact ⟨none, 0, by rw [h2], by omega, fun _ => rfl⟩
  · exact ⟨_, _, rfl, h3, fun e => by cases e⟩
theorem OwV.rv {w : World} {B : Nat} {T : TypeId} {a : Option Addr} {n c : Nat} {vs : List R} (h : OwV w B T (.slice a n c) vs) : RV w a vs := by
  intro m x hx
  have hm : m < vs.length := by rcases Nat.lt_or_ge m vs.length with t | t; exact t; rw [List.getElem?_eq_none t] at hx; cases hx
  have h' := h
  rcases h.2 with ⟨_, h2⟩ | ⟨g, cap, cur, e, _⟩
  · omega
  · simp only [Value.slice.injEq] at e
    obtain ⟨rfl, rfl, rfl⟩ := e
    have C := fun j (hj : j < 6) => World.ownsRow.cellAt (w := w) h' (m * 6 + j) (by omega)
    refine ⟨g, 0, rfl, ?_⟩
    rw [Nat.zero_add]
    exact ⟨(C 0 (by omega)).trans (VR_at x 0 (by omega) vs m hx), (C 1 (by omega)).trans (VR_at x 1 (by omega) vs m hx), (C 2 (by omega)).trans (VR_at x 2 (by omega) vs m hx), (C 3 (by omega)).trans (VR_at x 3 (by omega) vs m hx), (C 4 (by omega)).trans (VR_at x 4 (by omega) vs m hx), (C 5 (by omega)).trans (VR_at x 5 (by omega) vs m hx)⟩
theorem OwV.nil (w : World) (B : Nat) (T : TypeId) : OwV w B T (.slice none 0 0) [] := World.ownsRow_nil _ _ _ _
/-- one Value more -/
theorem wp_appV {o : Oper} {a : Act} {K : Act → World → Prop} {Q : Exit → Act → World → Prop} (w1 : World) (B : Nat) (t T : TypeId) (ht : Try.prog.underlying t = some (.slice T)) (hI : (Try.prog.info? T).map (fun i => (i.zero, i.size, i.bytes)) = some (some zV, 6, 48)) (s x : Operand)
    (ho : o.op = .call { callee := .builtin .append, args := #[s, x], argTypes := #[t, t] })
    (v : Value) (vs : List R) (y : R) (hO : OwV w1 B T v vs) (hs : a.eval s = v) (hx : a.eval x = .slice (some ⟨w1.heap.size, 0, none⟩) 1 1) (hl : vs.length ≤ 1000000) (hB : B ≤ w1.heap.size)
    (h : ∀ a' c' w', OwV w' B T (.slice a' (vs.length + 1) c') (vs ++ [y]) → (w1.alloc (.cells #[.int .i64 y.s, .bool y.k, .int .i64 y.n, .int .i64 y.lo, .int .i64 y.hi, .int .i64 y.p] T)).grownBy w' v.ownBlock → K (a.put o.dst (.slice a' (vs.length + 1) c')) w') : o.wp Try.prog a (w1.alloc (.cells #[.int .i64 y.s, .bool y.k, .int .i64 y.n, .int .i64 y.lo, .int .i64 y.hi, .int .i64 y.p] T)) K Q := by
  obtain ⟨i0, hi, hz0, hz1, hz2⟩ := info_parts hI
  refine wp_append_own _ s x t ho B T i0 zV 6 48 ht hi hz0 hz1 hz2 rfl (by decide) v vs.length (VR vs) hs (World.ownsRow.alloc hO _) ⟨w1.heap.size, 0, none⟩ 1 1 (cR y) hx rfl ?_ (fun u hu => VR_one [y] u (by simpa [VR] using hu)) ?_ ?_ ?_ ?_
  · intro j u hj
    rw [addr_none, Nat.zero_add]
    have hj6 : j < 6 := by
      rcases Nat.lt_or_ge j 6 with t | t
      · exact t
      · rw [List.getElem?_eq_none (by simpa using t)] at hj; cases hj
    match j, hj6 with
    | 0, _ => simp at hj; simp [hj]
    | 1, _ => simp at hj; simp [hj]
    | 2, _ => simp at hj; simp [hj]
    | 3, _ => simp at hj; simp [hj]
    | 4, _ => simp at hj; simp [hj]
    | 5, _ => simp at hj; simp [hj]
  · unfold maxLen; omega
  · omega
  · simp; omega
  · intro v' w' hown hgrow _
    have hT : OwV w' B T v' (vs ++ [y]) := by
      unfold OwV
      rw [VR_append]
      simpa [VR] using hown
    obtain ⟨a', c', rfl, _⟩ := hT.slice
    simp only [List.length_append, List.length_cons, List.length_nil, Nat.zero_add] at hT ⊢
    exact h a' c' w' hT hgrow
theorem wpList_appV {ops : Array Oper} {rest : List Oper} {o : Oper} {a : Act} {Q : Exit → Act → World → Prop} (w1 : World) (B : Nat) (t T : TypeId) (ht : Try.prog.underlying t = some (.slice T)) (hI : (Try.prog.info? T).map (fun i => (i.zero, i.size, i.bytes)) = some (some zV, 6, 48)) (hgd : o.guard = none) (s x : Operand)
    (ho : o.op = .call { callee := .builtin .append, args := #[s, x], argTypes := #[t, t] })
    (v : Value) (vs : List R) (y : R) (hO : OwV w1 B T v vs) (hs : a.eval s = v) (hx : a.eval x = .slice (some ⟨w1.heap.size, 0, none⟩) 1 1) (hl : vs.length ≤ 1000000) (hB : B ≤ w1.heap.size)
    (h : ∀ a' c' w', OwV w' B T (.slice a' (vs.length + 1) c') (vs ++ [y]) → (w1.alloc (.cells #[.int .i64 y.s, .bool y.k, .int .i64 y.n, .int .i64 y.lo, .int .i64 y.hi, .int .i64 y.p] T)).grownBy w' v.ownBlock → wpList Try.prog ops Q rest (a.put o.dst (.slice a' (vs.length + 1) c')) w') : wpList Try.prog ops Q (o :: rest) a (w1.alloc (.cells #[.int .i64 y.s, .bool y.k, .int .i64 y.n, .int .i64 y.lo, .int .i64 y.hi, .int .i64 y.p] T)) :=
  wpList_plain hgd fun _ hK => wp_appV w1 B t T ht hI s x ho v vs y hO hs hx hl hB fun a' c' w' h2 h3 => hK _ _ (h a' c' w' h2 h3)
/-- a row of the call's own, of one cell each: slices -/
def OwR (w : World) (B : Nat) (v : Value) (es : List Value) : Prop := w.ownsRow B 38 1 v es.length es
/-- a row of the call's own: numbers -/
def OwI (w : World) (B : Nat) (v : Value) (l : List Int) : Prop := w.ownsRow B 3 1 v l.length (I64 l)
theorem OwR.of {w w' : World} {B : Nat} {v : Value} {es : List Value} (h : OwR w B v es) (hb : ∀ k, v.ownBlock = some k → w'.heap[k]? = w.heap[k]?) : OwR w' B v es := ownsRow_heap h hb
theorem OwI.of {w w' : World} {B : Nat} {v : Value} {l : List Int} (h : OwI w B v l) (hb : ∀ k, v.ownBlock = some k → w'.heap[k]? = w.heap[k]?) : OwI w' B v l := ownsRow_heap h hb
theorem OwR.slice {w : World} {B : Nat} {v : Value} {es : List Value} (h : OwR w B v es) : ∃ a c, v = .slice a es.length c ∧ es.length ≤ c ∧ (a = none → c = 0) := by
  rcases h.2 with ⟨rfl, h2⟩ | ⟨g, cap, cur, rfl, _, _, h3, _⟩
  · exact ⟨none, 0, by rw [h2], by omega, fun _ => rfl⟩
  · exact ⟨_, _, rfl, h3, fun e => by cases e⟩
theorem OwI.slice {w : World} {B : Nat} {v : Value} {l : List Int} (h : OwI w B v l) : ∃ a c, v = .slice a l.length c ∧ l.length ≤ c ∧ (a = none → c = 0) := by
  rcases h.2 with ⟨rfl, h2⟩ | ⟨g, cap, cur, rfl, _, _, h3, _⟩
  · exact ⟨none, 0, by rw [h2], by omega, fun _ => rfl⟩
  · exact ⟨_, _, rfl, h3, fun e => by cases e⟩
theorem OwI.rl {w : World} {B : Nat} {v : Value} {l : List Int} (h : OwI w B v l) : Rl w v l := by
  obtain ⟨a, c, rfl, h2, h3⟩ := h.slice
  refine ⟨a, c, rfl, ?_, h2, h3⟩
  intro m x hx
  have hm : m < l.length := by rcases Nat.lt_or_ge m l.length with t | t; exact t; rw [List.getElem?_eq_none t] at hx; cases hx
  have h' := h
  rcases h.2 with ⟨_, h2⟩ | ⟨g, cap, cur, e, _⟩
  · omega
  · simp only [Value.slice.injEq] at e
    obtain ⟨rfl, -, rfl⟩ := e
    refine ⟨g, 0, rfl, ?_⟩
    rw [Nat.zero_add, World.ownsRow.cellAt (w := w) h' m (by omega)]
    unfold I64
    rw [List.getElem?_map, hx]; rfl
theorem OwR.cell {w : World} {B : Nat} {a : Option Addr} {n c : Nat} {es : List Value} (h : OwR w B (.slice a n c) es) {m : Nat} {e : Value} (he : es[m]? = some e) : ∃ b o, a = some ⟨b, o, none⟩ ∧ w.cell? ⟨b, o + m, none⟩ = some e := by
  have hm : m < es.length := by rcases Nat.lt_or_ge m es.length with t | t; exact t; rw [List.getElem?_eq_none t] at he; cases he
  have h' := h
  rcases h.2 with ⟨_, h2⟩ | ⟨g, cap, cur, e2, _⟩
  · omega
  · simp only [Value.slice.injEq] at e2
    obtain ⟨rfl, rfl, rfl⟩ := e2
    refine ⟨g, 0, rfl, ?_⟩
    rw [Nat.zero_add, World.ownsRow.cellAt (w := w) h' m (by omega), he]
/-- rows of other kinds lie in other blocks -/
theorem own_ne {w : World} {B1 B2 : Nat} {e1 e2 : TypeId} {s1 s2 n1 n2 : Nat} {v1 v2 : Value} {x1 x2 : List Value} (h1 : w.ownsRow B1 e1 s1 v1 n1 x1) (h2 : w.ownsRow B2 e2 s2 v2 n2 x2) (he : e1 ≠ e2) : ∀ k, v1.ownBlock = some k → some k ≠ v2.ownBlock := by
  intro k hk hk2
  rcases h1.2 with ⟨rfl, _⟩ | ⟨g, cap, cur, rfl, _, hg, _⟩
  · cases hk
  · rcases h2.2 with ⟨rfl, _⟩ | ⟨g2, cap2, cur2, rfl, _, hg2, _⟩
    · cases hk2
    · obtain rfl : g = k := by simpa [Value.ownBlock] using hk
      obtain rfl : g = g2 := by simpa [Value.ownBlock] using hk2
      rw [hg] at hg2
      exact he (by simpa using hg2 |> fun t => (Obj.cells.inj (Option.some.inj t)).2.1)
theorem OwR.nil (w : World) (B : Nat) : OwR w B (.slice none 0 0) [] := World.ownsRow_nil _ _ _ _
theorem wp_appR {o : Oper} {a : Act} {K : Act → World → Prop} {Q : Exit → Act → World → Prop} (w1 : World) (B : Nat) (s x : Operand)
    (ho : o.op = .call { callee := .builtin .append, args := #[s, x], argTypes := #[23, 23] })
    (v : Value) (es : List Value) (y : Value) (hy : y.oneCell' = true) (hO : OwR w1 B v es) (hs : a.eval s = v) (hx : a.eval x = .slice (some ⟨w1.heap.size, 0, none⟩) 1 1) (hl : es.length ≤ 1000000) (hB : B ≤ w1.heap.size)
    (h : ∀ a' c' w', OwR w' B (.slice a' (es.length + 1) c') (es ++ [y]) → (w1.alloc (.cells #[y] 38)).grownBy w' v.ownBlock → K (a.put o.dst (.slice a' (es.length + 1) c')) w') : o.wp Try.prog a (w1.alloc (.cells #[y] 38)) K Q := by
  obtain ⟨i0, hi, hz0, hz1, hz2⟩ := info_parts info38p
  refine wp_append_own _ s x 23 ho B 38 i0 (.slice none 0 0) 1 24 Try.underlying23 hi hz0 hz1 hz2 rfl (by decide) v es.length es hs (World.ownsRow.alloc hO _) ⟨w1.heap.size, 0, none⟩ 1 1 [y] hx rfl ?_ (fun u hu => by simp at hu; subst hu; exact hy) ?_ ?_ ?_ ?_
  · intro j u hj
    rw [addr_none, Nat.zero_add]
    cases j with
    | zero => simp at hj; simp [hj]
    | succ j => simp at hj
  · unfold maxLen; omega
  · omega
  · simp; omega
  · intro v' w' hown hgrow _
    have hT : OwR w' B v' (es ++ [y]) := by
      unfold OwR
      simpa using hown
    obtain ⟨a', c', rfl, _⟩ := hT.slice
    simp only [List.length_append, List.length_cons, List.length_nil, Nat.zero_add] at hT ⊢
    exact h a' c' w' hT hgrow
theorem wpList_appR {ops : Array Oper} {rest : List Oper} {o : Oper} {a : Act} {Q : Exit → Act → World → Prop} (w1 : World) (B : Nat) (hgd : o.guard = none) (s x : Operand)
    (ho : o.op = .call { callee := .builtin .append, args := #[s, x], argTypes := #[23, 23] })
    (v : Value) (es : List Value) (y : Value) (hy : y.oneCell' = true) (hO : OwR w1 B v es) (hs : a.eval s = v) (hx : a.eval x = .slice (some ⟨w1.heap.size, 0, none⟩) 1 1) (hl : es.length ≤ 1000000) (hB : B ≤ w1.heap.size)
    (h : ∀ a' c' w', OwR w' B (.slice a' (es.length + 1) c') (es ++ [y]) → (w1.alloc (.cells #[y] 38)).grownBy w' v.ownBlock → wpList Try.prog ops Q rest (a.put o.dst (.slice a' (es.length + 1) c')) w') : wpList Try.prog ops Q (o :: rest) a (w1.alloc (.cells #[y] 38)) :=
  wpList_plain hgd fun _ hK => wp_appR w1 B s x ho v es y hy hO hs hx hl hB fun a' c' w' h2 h3 => hK _ _ (h a' c' w' h2 h3)
/-- rows within a row: each of the call's own -/
def Inn (w : World) (B : Nat) (es : List Value) (ss : List (List Int)) : Prop := es.length = ss.length ∧ ∀ (m : Nat) (l : List Int), ss[m]? = some l → ∃ e, es[m]? = some e ∧ OwI w B e l
theorem Inn.nil (w : World) (B : Nat) : Inn w B [] [] := ⟨rfl, fun m l h => by simp at h⟩
theorem Inn.app {w : World} {B : Nat} {es : List Value} {ss : List (List Int)} {e : Value} {l : List Int} (h : Inn w B es ss) (he : OwI w B e l) : Inn w B (es ++ [e]) (ss ++ [l]) := by
  refine ⟨by simp [h.1], fun m l2 hm => ?_⟩
  rcases Nat.lt_or_ge m ss.length with t | t
  · rw [List.getElem?_append_left t] at hm
    obtain ⟨e2, h1, h2⟩ := h.2 m l2 hm
    exact ⟨e2, by rw [List.getElem?_append_left (by have := h.1; omega)]; exact h1, h2⟩
  · rw [List.getElem?_append_right t] at hm
    have : m - ss.length = 0 := by
      rcases Nat.eq_zero_or_pos (m - ss.length) with z | z
      · exact z
      · rw [List.getElem?_eq_none (by simp; omega)] at hm; cases hm
    rw [this] at hm
    obtain rfl : l = l2 := by simpa using hm
    exact ⟨e, by rw [List.getElem?_append_right (by have := h.1; omega), show m - es.length = 0 by have := h.1; omega]; rfl, he⟩
theorem OwI.lt {w : World} {B : Nat} {v : Value} {l : List Int} (h : OwI w B v l) : ∀ k, v.ownBlock = some k → B ≤ k ∧ k < w.heap.size := World.ownsRow.lt h
theorem OwR.lt {w : World} {B : Nat} {v : Value} {es : List Value} (h : OwR w B v es) : ∀ k, v.ownBlock = some k → B ≤ k ∧ k < w.heap.size := World.ownsRow.lt h
theorem OwV.lt {w : World} {B : Nat} {T : TypeId} {v : Value} {vs : List R} (h : OwV w B T v vs) : ∀ k, v.ownBlock = some k → B ≤ k ∧ k < w.heap.size := World.ownsRow.lt h
/-- a State in a box, all of the call's own -/
structure Lo (w : World) (B q : Nat) (T : TypeId) (s : S) (va sa : Value) (es : List Value) : Prop where
  bx : Bs w q s.r va sa
  fz : Fs w q
  ov : OwV w B T va s.vs
  os : OwR w B sa es
  inn : Inn w B es s.ss
  qB : q < B
theorem Lo.of {w w' : World} {B q : Nat} {T : TypeId} {s : S} {va sa : Value} {es : List Value} (h : Lo w B q T s va sa es) (hb : Below w.heap.size w w') : Lo w' B q T s va sa es :=
  ⟨h.bx.keep hb, h.fz.of (hb.block q h.bx.lt), h.ov.of (fun k hk => hb.block k (h.ov.lt k hk).2), h.os.of (fun k hk => hb.block k (h.os.lt k hk).2), ⟨h.inn.1, fun m l hm => by
    obtain ⟨e, h1, h2⟩ := h.inn.2 m l hm
    exact ⟨e, h1, h2.of (fun k hk => hb.block k (h2.lt k hk).2)⟩⟩, h.qB⟩
theorem Lo.appV {w w' : World} {B q : Nat} {T : TypeId} {s : S} {va sa va' : Value} {es : List Value} {y : R} (h : Lo w B q T s va sa es) (hT : T ≠ 38) (hT2 : T ≠ 3) (ho : OwV w' B T va' (s.vs ++ [y])) (hg : w.grownBy w' va.ownBlock) : Lo (w'.setCell ⟨q, 1, none⟩ va') B q T ⟨s.r, s.vs ++ [y], s.ss⟩ va' sa es := by
  have hq : some q ≠ va.ownBlock := fun e => by have := (h.ov.lt q e.symm).1; have := h.qB; omega
  have q1 : w'.heap[q]? = w.heap[q]? := hg.block q h.bx.lt hq
  have far : ∀ k, B ≤ k → (w'.setCell ⟨q, 1, none⟩ va').heap[k]? = w'.heap[k]? := fun k hk => set_block w' q 1 va' k (by have := h.qB; omega)
  refine ⟨(h.bx.of q1).put1 va', (h.fz.of q1).put _ _, ho.of (fun k hk => far k (ho.lt k hk).1), h.os.of (fun k hk => ?_), ⟨h.inn.1, fun m l hm => ?_⟩, h.qB⟩
  · exact (far k (h.os.lt k hk).1).trans (hg.block k (h.os.lt k hk).2 (own_ne h.os h.ov (fun t => hT t.symm) k hk))
  · obtain ⟨e, h1, h2⟩ := h.inn.2 m l hm
    exact ⟨e, h1, h2.of (fun k hk => (far k (h2.lt k hk).1).trans (hg.block k (h2.lt k hk).2 (own_ne h2 h.ov (fun t => hT2 t.symm) k hk)))⟩
theorem Lo.appR {w w' : World} {B q : Nat} {T : TypeId} {s : S} {va sa sa' e : Value} {es : List Value} {l : List Int} (h : Lo w B q T s va sa es) (hT : T ≠ 38) (he : OwI w B e l) (ho : OwR w' B sa' (es ++ [e])) (hg : w.grownBy w' sa.ownBlock) : Lo (w'.setCell ⟨q, 2, none⟩ sa') B q T ⟨s.r, s.vs, s.ss ++ [l]⟩ va sa' (es ++ [e]) := by
  have hq : some q ≠ sa.ownBlock := fun t => by have := (h.os.lt q t.symm).1; have := h.qB; omega
  have q1 : w'.heap[q]? = w.heap[q]? := hg.block q h.bx.lt hq
  have far : ∀ k, B ≤ k → (w'.setCell ⟨q, 2, none⟩ sa').heap[k]? = w'.heap[k]? := fun k hk => set_block w' q 2 sa' k (by have := h.qB; omega)
  have inn2 : Inn w B (es ++ [e]) (s.ss ++ [l]) := h.inn.app he
  refine ⟨(h.bx.of q1).put2 sa', (h.fz.of q1).put _ _, h.ov.of (fun k hk => ?_), ho.of (fun k hk => far k (ho.lt k hk).1), ⟨inn2.1, fun m l2 hm => ?_⟩, h.qB⟩
  · exact (far k (h.ov.lt k hk).1).trans (hg.block k (h.ov.lt k hk).2 (own_ne h.ov h.os hT k hk))
  · obtain ⟨e2, h1, h2⟩ := inn2.2 m l2 hm
    exact ⟨e2, h1, h2.of (fun k hk => (far k (h2.lt k hk).1).trans (hg.block k (h2.lt k hk).2 (own_ne h2 h.os (by decide) k hk)))⟩
theorem Inn.rr {w : World} {B : Nat} {a : Option Addr} {n c : Nat} {es : List Value} {ss : List (List Int)} (h : OwR w B (.slice a n c) es) (hi : Inn w B es ss) : RR w a ss := by
  intro m l hm
  obtain ⟨e, h1, h2⟩ := hi.2 m l hm
  obtain ⟨b, o, h3, h4⟩ := h.cell h1
  exact ⟨b, o, e, h3, h4, h2.rl⟩
/-- it is a State -/
theorem Lo.rs {w : World} {B q : Nat} {T : TypeId} {s : S} {va sa : Value} {es : List Value} (h : Lo w B q T s va sa es) : Rs w (.agg #[.bool s.r, va, sa]) s := by
  obtain ⟨a, c, rfl, h1, h2⟩ := h.ov.slice
  obtain ⟨b, d, e, h3, h4⟩ := h.os.slice
  have ho := h.os
  have hn := h.inn
  rw [hn.1] at e h3
  subst e
  exact ⟨a, c, b, d, rfl, h.ov.rv, Inn.rr ho hn, h1, h3, h2, h4⟩
/-- one Value more, where it lies anywhere -/
theorem wp_appV' {o : Oper} {a : Act} {K : Act → World → Prop} {Q : Exit → Act → World → Prop} (w1 : World) (B : Nat) (t T : TypeId) (ht : Try.prog.underlying t = some (.slice T)) (hI : (Try.prog.info? T).map (fun i => (i.zero, i.size, i.bytes)) = some (some zV, 6, 48)) (s x : Operand)
    (ho : o.op = .call { callee := .builtin .append, args := #[s, x], argTypes := #[t, t] })
    (v : Value) (vs : List R) (y : R) (nb : Nat) (hO : OwV w1 B T v vs) (hY : B6 w1 nb 0 y) (hs : a.eval s = v) (hx : a.eval x = .slice (some ⟨nb, 0, none⟩) 1 1) (hl : vs.length ≤ 1000000) (hB : B ≤ w1.heap.size)
    (h : ∀ a' c' w', OwV w' B T (.slice a' (vs.length + 1) c') (vs ++ [y]) → w1.grownBy w' v.ownBlock → K (a.put o.dst (.slice a' (vs.length + 1) c')) w') : o.wp Try.prog a w1 K Q := by
  obtain ⟨i0, hi, hz0, hz1, hz2⟩ := info_parts hI
  refine wp_append_own _ s x t ho B T i0 zV 6 48 ht hi hz0 hz1 hz2 rfl (by decide) v vs.length (VR vs) hs hO ⟨nb, 0, none⟩ 1 1 (cR y) hx rfl ?_ (fun u hu => VR_one [y] u (by simpa [VR] using hu)) ?_ ?_ ?_ ?_
  · intro j u hj
    rw [addr_none]
    have hj6 : j < 6 := by
      rcases Nat.lt_or_ge j 6 with t | t
      · exact t
      · rw [List.getElem?_eq_none (by simpa using t)] at hj; cases hj
    match j, hj6 with
    | 0, _ => simp at hj; subst hj; exact hY.c0
    | 1, _ => simp at hj; subst hj; exact hY.c1
    | 2, _ => simp at hj; subst hj; exact hY.c2
    | 3, _ => simp at hj; subst hj; exact hY.c3
    | 4, _ => simp at hj; subst hj; exact hY.c4
    | 5, _ => simp at hj; subst hj; exact hY.c5
  · unfold maxLen; omega
  · omega
  · exact hB
  · intro v' w' hown hgrow _
    have hT : OwV w' B T v' (vs ++ [y]) := by
      unfold OwV
      rw [VR_append]
      simpa [VR] using hown
    obtain ⟨a', c', rfl, _⟩ := hT.slice
    simp only [List.length_append, List.length_cons, List.length_nil, Nat.zero_add] at hT ⊢
    exact h a' c' w' hT hgrow
theorem wpList_appV' {ops : Array Oper} {rest : List Oper} {o : Oper} {a : Act} {Q : Exit → Act → World → Prop} (w1 : World) (B : Nat) (t T : TypeId) (ht : Try.prog.underlying t = some (.slice T)) (hI : (Try.prog.info? T).map (fun i => (i.zero, i.size, i.bytes)) = some (some zV, 6, 48)) (hgd : o.guard = none) (s x : Operand)
    (ho : o.op = .call { callee := .builtin .append, args := #[s, x], argTypes := #[t, t] })
    (v : Value) (vs : List R) (y : R) (nb : Nat) (hO : OwV w1 B T v vs) (hY : B6 w1 nb 0 y) (hs : a.eval s = v) (hx : a.eval x = .slice (some ⟨nb, 0, none⟩) 1 1) (hl : vs.length ≤ 1000000) (hB : B ≤ w1.heap.size)
    (h : ∀ a' c' w', OwV w' B T (.slice a' (vs.length + 1) c') (vs ++ [y]) → w1.grownBy w' v.ownBlock → wpList Try.prog ops Q rest (a.put o.dst (.slice a' (vs.length + 1) c')) w') : wpList Try.prog ops Q (o :: rest) a w1 :=
  wpList_plain hgd fun _ hK => wp_appV' w1 B t T ht hI s x ho v vs y nb hO hY hs hx hl hB fun a' c' w' h2 h3 => hK _ _ (h a' c' w' h2 h3)
theorem B6.new (w : World) (x : R) (t : TypeId) : B6 (w.alloc (.cells #[.int .i64 x.s, .bool x.k, .int .i64 x.n, .int .i64 x.lo, .int .i64 x.hi, .int .i64 x.p] t)) w.heap.size 0 x := ⟨by simp, by simp, by simp, by simp, by simp, by simp⟩
/-- one slice more, where it lies anywhere -/
theorem wp_appR' {o : Oper} {a : Act} {K : Act → World → Prop} {Q : Exit → Act → World → Prop} (w1 : World) (B : Nat) (s x : Operand)
    (ho : o.op = .call { callee := .builtin .append, args := #[s, x], argTypes := #[23, 23] })
    (v : Value) (es : List Value) (y : Value) (nb : Nat) (hy : y.oneCell' = true) (hO : OwR w1 B v es) (hY : w1.cell? ⟨nb, 0, none⟩ = some y) (hs : a.eval s = v) (hx : a.eval x = .slice (some ⟨nb, 0, none⟩) 1 1) (hl : es.length ≤ 1000000) (hB : B ≤ w1.heap.size)
    (h : ∀ a' c' w', OwR w' B (.slice a' (es.length + 1) c') (es ++ [y]) → w1.grownBy w' v.ownBlock → K (a.put o.dst (.slice a' (es.length + 1) c')) w') : o.wp Try.prog a w1 K Q := by
  obtain ⟨i0, hi, hz0, hz1, hz2⟩ := info_parts info38p
  refine wp_append_own _ s x 23 ho B 38 i0 (.slice none 0 0) 1 24 Try.underlying23 hi hz0 hz1 hz2 rfl (by decide) v es.length es hs hO ⟨nb, 0, none⟩ 1 1 [y] hx rfl ?_ (fun u hu => by simp at hu; subst hu; exact hy) ?_ ?_ ?_ ?_
  · intro j u hj
    rw [addr_none, Nat.zero_add]
    cases j with
    | zero => simp at hj; subst hj; exact hY
    | succ j => simp at hj
  · unfold maxLen; omega
  · omega
  · exact hB
  · intro v' w' hown hgrow _
    have hT : OwR w' B v' (es ++ [y]) := by
      unfold OwR
      simpa using hown
    obtain ⟨a', c', rfl, _⟩ := hT.slice
    simp only [List.length_append, List.length_cons, List.length_nil, Nat.zero_add] at hT ⊢
    exact h a' c' w' hT hgrow
theorem wpList_appR' {ops : Array Oper} {rest : List Oper} {o : Oper} {a : Act} {Q : Exit → Act → World → Prop} (w1 : World) (B : Nat) (hgd : o.guard = none) (s x : Operand)
    (ho : o.op = .call { callee := .builtin .append, args := #[s, x], argTypes := #[23, 23] })
    (v : Value) (es : List Value) (y : Value) (nb : Nat) (hy : y.oneCell' = true) (hO : OwR w1 B v es) (hY : w1.cell? ⟨nb, 0, none⟩ = some y) (hs : a.eval s = v) (hx : a.eval x = .slice (some ⟨nb, 0, none⟩) 1 1) (hl : es.length ≤ 1000000) (hB : B ≤ w1.heap.size)
    (h : ∀ a' c' w', OwR w' B (.slice a' (es.length + 1) c') (es ++ [y]) → w1.grownBy w' v.ownBlock → wpList Try.prog ops Q rest (a.put o.dst (.slice a' (es.length + 1) c')) w') : wpList Try.prog ops Q (o :: rest) a w1 :=
  wpList_plain hgd fun _ hK => wp_appR' w1 B s x ho v es y nb hy hO hY hs hx hl hB fun a' c' w' h2 h3 => hK _ _ (h a' c' w' h2 h3)
theorem Lo.boxV {w w' : World} {B q : Nat} {T : TypeId} {s : S} {va sa : Value} {es : List Value} (h : Lo w B q T s va sa es) (hg : w.grownBy w' va.ownBlock) : Bs w' q s.r va sa ∧ Fs w' q :=
  have q1 : w'.heap[q]? = w.heap[q]? := hg.block q h.bx.lt (fun e => by have := (h.ov.lt q e.symm).1; have := h.qB; omega)
  ⟨h.bx.of q1, h.fz.of q1⟩
theorem Lo.boxR {w w' : World} {B q : Nat} {T : TypeId} {s : S} {va sa : Value} {es : List Value} (h : Lo w B q T s va sa es) (hg : w.grownBy w' sa.ownBlock) : Bs w' q s.r va sa ∧ Fs w' q :=
  have q1 : w'.heap[q]? = w.heap[q]? := hg.block q h.bx.lt (fun e => by have := (h.os.lt q e.symm).1; have := h.qB; omega)
  ⟨h.bx.of q1, h.fz.of q1⟩
theorem Lo.belV {W w w' : World} {B q : Nat} {T : TypeId} {s : S} {va sa : Value} {es : List Value} (h : Lo w B q T s va sa es) (hb : Below q W w) (hg : w.grownBy w' va.ownBlock) : Below q W w' :=
  hb.grown hg (Nat.le_of_lt h.bx.lt) (fun k hk => by have := (h.ov.lt k hk).1; have := h.qB; omega)
theorem Lo.belR {W w w' : World} {B q : Nat} {T : TypeId} {s : S} {va sa : Value} {es : List Value} (h : Lo w B q T s va sa es) (hb : Below q W w) (hg : w.grownBy w' sa.ownBlock) : Below q W w' :=
  hb.grown hg (Nat.le_of_lt h.bx.lt) (fun k hk => by have := (h.os.lt k hk).1; have := h.qB; omega)
/-- the box alone, at the beginning -/
theorem Lo.start {w : World} {B q : Nat} (T : TypeId) {r : Bool} (h : Bs w q r (.slice none 0 0) (.slice none 0 0)) (hf : Fs w q) (hB : q < B) : Lo w B q T ⟨r, [], []⟩ (.slice none 0 0) (.slice none 0 0) [] :=
  ⟨h, hf, OwV.nil _ _ _, OwR.nil _ _, Inn.nil _ _, hB⟩
theorem take_more {α : Type} {l : List α} {k : Nat} {x : α} (h : l[k]? = some x) : l.take (k + 1) = l.take k ++ [x] := by
  rw [List.take_add_one, h]; rfl
theorem ownsRow_mono {w : World} {base base' e size n : Nat} {v : Value} {xs : List Value} (h : w.ownsRow base e size v n xs) (hb : base' ≤ base) : w.ownsRow base' e size v n xs := by
  refine ⟨h.1, ?_⟩
  rcases h.2 with h2 | ⟨g, cap, cur, h1, h2, h3⟩
  · exact .inl h2
  · exact .inr ⟨g, cap, cur, h1, Nat.le_trans hb h2, h3⟩
theorem St.owi {w0 w : World} {v : Value} {l : List Int} (h : St w0 w v l) {B : Nat} (hB : B ≤ w0.heap.size) : OwI w B v l := ownsRow_mono h.own hB
theorem OwI.keep {w w' : World} {B : Nat} {v : Value} {l : List Int} (h : OwI w B v l) (hb : Below w.heap.size w w') : OwI w' B v l := h.of (fun k hk => hb.block k (h.lt k hk).2)
theorem OwV.keep {w w' : World} {B : Nat} {T : TypeId} {v : Value} {vs : List R} (h : OwV w B T v vs) (hb : Below w.heap.size w w') : OwV w' B T v vs := h.of (fun k hk => hb.block k (h.lt k hk).2)
theorem B6.keep {w w' : World} {b o : Nat} {x : R} (h : B6 w b o x) (hb : Below w.heap.size w w') : B6 w' b o x := h.of (hb.block b h.lt)
/-- one cell at a block's head -/
structure C1 (w : World) (b : Nat) (e : Value) : Prop where
  c : w.cell? ⟨b, 0, none⟩ = some e
theorem C1.keep {w w' : World} {b : Nat} {e : Value} (h : C1 w b e) (hb : Below w.heap.size w w') : C1 w' b e := ⟨(hb.cell (p := ⟨b, 0, none⟩) (World.block_lt_of_cell? w _ h.c)).trans h.c⟩
theorem C1.new (w : World) (e : Value) (t : TypeId) : C1 (w.alloc (.cells #[e] t)) w.heap.size e := ⟨by simp⟩
theorem St.lit0 (w : World) : St w (w.alloc (.cells #[] 3)) (.slice (some ⟨w.heap.size, 0, none⟩) 0 0) [] := by
  refine ⟨⟨by simp [I64], Or.inr ⟨w.heap.size, 0, #[], rfl, Nat.le_refl _, ?_, Nat.le_refl _, by unfold maxLen; omega, rfl, rfl⟩⟩, (Below.refl _ _).alloc (Nat.le_refl _) _⟩
  show (w.heap.push _)[w.heap.size]? = _
  simp
theorem St.lit1 (w : World) (n : Int) : St w (w.alloc (.cells #[.int .i64 n] 3)) (.slice (some ⟨w.heap.size, 0, none⟩) 1 1) [n] := by
  refine ⟨⟨by simp [I64], Or.inr ⟨w.heap.size, 1, #[.int .i64 n], rfl, Nat.le_refl _, ?_, Nat.le_refl _, by unfold maxLen; omega, rfl, rfl⟩⟩, (Below.refl _ _).alloc (Nat.le_refl _) _⟩
  show (w.heap.push _)[w.heap.size]? = _
  simp
theorem wp_appN {o : Oper} {a : Act} {K : Act → World → Prop} {Q : Exit → Act → World → Prop} (w0 w1 : World) (s x : Operand)
    (ho : o.op = .call { callee := .builtin .append, args := #[s, x], argTypes := #[38, 38] })
    (v : Value) (ps zs : List Int) (ad : Addr) (c : Nat) (hS : St w0 w1 v ps) (hs : a.eval s = v) (hx : a.eval x = .slice (some ad) zs.length c) (hz : Ri w1 (some ad) zs) (hl : ps.length + zs.length ≤ 1000000)
    (h : ∀ a' c' w', St w0 w' (.slice a' (ps.length + zs.length) c') (ps ++ zs) → K (a.put o.dst (.slice a' (ps.length + zs.length) c')) w') : o.wp Try.prog a w1 K Q := by
  obtain ⟨i0, hi, hz0, hz1, hz2⟩ := info_parts info3p
  refine wp_append_own _ s x 38 ho w0.heap.size 3 i0 (.int .i64 0) 1 8 Try.underlying38 hi hz0 hz1 hz2 rfl (by decide) v ps.length (I64 ps) hs hS.own ad zs.length c (I64 zs) hx (by simp [I64]) ?_ (i64_one zs) ?_ ?_ ?_ ?_
  · intro j u hj
    unfold I64 at hj
    rw [List.getElem?_map, Option.map_eq_some_iff] at hj
    obtain ⟨n, hn, rfl⟩ := hj
    obtain ⟨b, o', e, hc⟩ := hz j n hn
    obtain rfl := Option.some.inj e
    rw [addr_none]; exact hc
  · unfold maxLen; omega
  · omega
  · exact hS.bel.size
  · intro v' w' hown hgrow _
    have hT : St w0 w' v' (ps ++ zs) := by
      refine ⟨?_, hS.bel.grown hgrow hS.bel.size (fun k hk => ((hS.own.lt k hk).1))⟩
      have e : I64 (ps ++ zs) = I64 ps ++ I64 zs := by simp [I64]
      rw [e]
      simpa using hown
    obtain ⟨a', c', rfl⟩ := hT.slice
    simp only [List.length_append] at hT ⊢
    exact h a' c' w' hT
theorem wp_app0 {o : Oper} {a : Act} {K : Act → World → Prop} {Q : Exit → Act → World → Prop} (w0 w1 : World) (s x : Operand)
    (ho : o.op = .call { callee := .builtin .append, args := #[s, x], argTypes := #[38, 38] })
    (v : Value) (ps : List Int) (hS : St w0 w1 v ps) (hs : a.eval s = v) (hx : a.eval x = .slice none 0 0)
    (h : K (a.put o.dst v) w1) : o.wp Try.prog a w1 K Q := by
  obtain ⟨i0, hi, hz0, hz1, hz2⟩ := info_parts info3p
  have hr := run_append_owned_none (P := Try.prog) (w := w1) w0.heap.size 38 o.type 3 i0 1 Try.underlying38 hi v ps.length (I64 ps) hS.own
  unfold Oper.wp execOp
  simp only [ho, resolve, invoke, builtin, Sem.run_bind, Sem.run_pure, Result.andThen_ok, List.map_toArray, List.map_cons, List.map_nil, hs, hx, hr]
  exact h
/-- a copy of a slice -/
theorem wp_appZ {o : Oper} {a : Act} {K : Act → World → Prop} {Q : Exit → Act → World → Prop} (w0 w1 : World) (s x : Operand)
    (ho : o.op = .call { callee := .builtin .append, args := #[s, x], argTypes := #[38, 38] })
    (v : Value) (hS : St w0 w1 v []) (hs : a.eval s = v) (az : Option Addr) (c : Nat) (zs : List Int) (hx : a.eval x = .slice az zs.length c) (hz : Ri w1 az zs) (hn : az = none → c = 0 ∧ zs = []) (hl : zs.length ≤ 1000000)
    (h : ∀ a' c' w', St w0 w' (.slice a' zs.length c') zs → K (a.put o.dst (.slice a' zs.length c')) w') : o.wp Try.prog a w1 K Q := by
  cases az with
  | none =>
    obtain ⟨rfl, rfl⟩ := hn rfl
    obtain ⟨a', c', rfl⟩ := hS.slice
    exact wp_app0 w0 w1 s x ho _ [] hS hs hx (h a' c' w1 hS)
  | some ad =>
    refine wp_appN w0 w1 s x ho v [] zs ad c hS hs hx hz (by simpa using hl) fun a' c' w' h5 => ?_
    simp only [List.length_nil, Nat.zero_add, List.nil_append] at h5 ⊢
    exact h a' c' w' h5
/-- three boxes -/
theorem boxes3 (w : World) (r : Bool) (va sa : Value) (r1 : Bool) (va1 sa1 : Value) (r2 : Bool) (va2 sa2 : Value) (t0 t1 t2 : TypeId) :
    ∀ W, ((w.alloc (.cells #[.bool r, va, sa] t0)).alloc (.cells #[.bool r1, va1, sa1] t1)).alloc (.cells #[.bool r2, va2, sa2] t2) = W →
    Bs W w.heap.size r va sa ∧ Fs W w.heap.size ∧ Bs W (w.heap.size + 1) r1 va1 sa1 ∧ Fs W (w.heap.size + 1) ∧ Bs W (w.heap.size + 1 + 1) r2 va2 sa2 ∧ Fs W (w.heap.size + 1 + 1) ∧ Below w.heap.size w W := by
  rintro W rfl
  have sz : ∀ (u : World) (o : Obj), (u.alloc o).heap.size = u.heap.size + 1 := fun u o => by simp
  have u1 : Below w.heap.size w (w.alloc (.cells #[.bool r, va, sa] t0)) := (Below.refl _ _).alloc (Nat.le_refl _) _
  have B0 := Bs.new w r va sa t0
  have F0 := Fs.new w r va sa t0
  have S0 := sz w (.cells #[.bool r, va, sa] t0)
  generalize w.alloc (.cells #[.bool r, va, sa] t0) = A at *
  have u2 : Below A.heap.size A (A.alloc (.cells #[.bool r1, va1, sa1] t1)) := (Below.refl _ _).alloc (Nat.le_refl _) _
  have B1 := Bs.new A r1 va1 sa1 t1
  have F1 := Fs.new A r1 va1 sa1 t1
  have S1 := sz A (.cells #[.bool r1, va1, sa1] t1)
  generalize A.alloc (.cells #[.bool r1, va1, sa1] t1) = C at *
  have u3 : Below C.heap.size C (C.alloc (.cells #[.bool r2, va2, sa2] t2)) := (Below.refl _ _).alloc (Nat.le_refl _) _
  have B2 := Bs.new C r2 va2 sa2 t2
  have F2 := Fs.new C r2 va2 sa2 t2
  generalize C.alloc (.cells #[.bool r2, va2, sa2] t2) = D at *
  rw [S0] at B1 F1
  rw [S1, S0] at B2 F2
  have e0 : D.heap[w.heap.size]? = A.heap[w.heap.size]? := (u3.block _ (by omega)).trans (u2.block _ (by omega))
  have e1 : D.heap[w.heap.size + 1]? = C.heap[w.heap.size + 1]? := u3.block _ (by omega)
  exact ⟨B0.of e0, F0.of e0, B1.of e1, F1.of e1, B2, F2, (u1.trans (u2.mono (by omega))).trans (u3.mono (by omega))⟩
theorem boxes2 (w : World) (r : Bool) (va sa : Value) (r1 : Bool) (va1 sa1 : Value) (t0 t1 : TypeId) :
    ∀ W, (w.alloc (.cells #[.bool r, va, sa] t0)).alloc (.cells #[.bool r1, va1, sa1] t1) = W →
    Bs W w.heap.size r va sa ∧ Fs W w.heap.size ∧ Bs W (w.heap.size + 1) r1 va1 sa1 ∧ Fs W (w.heap.size + 1) ∧ Below w.heap.size w W := by
  rintro W rfl
  have sz : ∀ (u : World) (o : Obj), (u.alloc o).heap.size = u.heap.size + 1 := fun u o => by simp
  have u1 : Below w.heap.size w (w.alloc (.cells #[.bool r, va, sa] t0)) := (Below.refl _ _).alloc (Nat.le_refl _) _
  have B0 := Bs.new w r va sa t0
  have F0 := Fs.new w r va sa t0
  have S0 := sz w (.cells #[.bool r, va, sa] t0)
  generalize w.alloc (.cells #[.bool r, va, sa] t0) = A at *
  have u2 : Below A.heap.size A (A.alloc (.cells #[.bool r1, va1, sa1] t1)) := (Below.refl _ _).alloc (Nat.le_refl _) _
  have B1 := Bs.new A r1 va1 sa1 t1
  have F1 := Fs.new A r1 va1 sa1 t1
  generalize A.alloc (.cells #[.bool r1, va1, sa1] t1) = C at *
  rw [S0] at B1 F1
  have e0 : C.heap[w.heap.size]? = A.heap[w.heap.size]? := u2.block _ (by omega)
  exact ⟨B0.of e0, F0.of e0, B1, F1, u1.trans (u2.mono (by omega))⟩
theorem box1 (w : World) (r : Bool) (va sa : Value) (t0 : TypeId) : ∀ W, w.alloc (.cells #[.bool r, va, sa] t0) = W → Bs W w.heap.size r va sa ∧ Fs W w.heap.size ∧ Below w.heap.size w W := by
  rintro W rfl
  exact ⟨Bs.new w r va sa t0, Fs.new w r va sa t0, (Below.refl _ _).alloc (Nat.le_refl _) _⟩
theorem Lo.rn {w : World} {B q : Nat} {T : TypeId} {s : S} {va sa : Value} {es : List Value} (h : Lo w B q T s va sa es) : Rn w B (.agg #[.bool s.r, va, sa]) s := by
  have hr := h.rs
  have hn := h.inn
  have hlv := h.ov.lt
  have hls := h.os.lt
  obtain ⟨a, c, rfl, h1, h2⟩ := h.ov.slice
  have hov := h.ov.rv
  obtain ⟨b, d, e, h3, h4⟩ := h.os.slice
  subst e
  have hos := h.os
  rw [hn.1] at h3
  refine ⟨a, c, b, d, by rw [hn.1], fun m x hx => ?_, fun m l hl => ?_, h1, h3, h2, h4⟩
  · obtain ⟨b1, o1, rfl, e2⟩ := hov m x hx
    exact ⟨b1, o1, rfl, (hlv b1 rfl).1, e2⟩
  · obtain ⟨e, k1, k2⟩ := hn.2 m l hl
    obtain ⟨b1, o1, rfl, k4⟩ := hos.cell k1
    exact ⟨b1, o1, e, rfl, (hls b1 rfl).1, k4, k2.rl, fun k hk => (k2.lt k hk).1⟩
theorem Lo.far {w : World} {B q : Nat} {T : TypeId} {s : S} {va sa : Value} {es : List Value} (h : Lo w B q T s va sa es) (p o : Nat) (v : Value) (hp : p < B) (hne : p ≠ q) : Lo (w.setCell ⟨p, o, none⟩ v) B q T s va sa es := by
  have e : ∀ k, k ≠ p → (w.setCell ⟨p, o, none⟩ v).heap[k]? = w.heap[k]? := fun k hk => set_block w p o v k hk
  refine ⟨h.bx.of (e q (fun t => hne t.symm)), h.fz.of (e q (fun t => hne t.symm)), h.ov.of (fun k hk => e k (by have := (h.ov.lt k hk).1; omega)), h.os.of (fun k hk => e k (by have := (h.os.lt k hk).1; omega)), ⟨h.inn.1, fun m l hm => ?_⟩, h.qB⟩
  obtain ⟨e2, h1, h2⟩ := h.inn.2 m l hm
  exact ⟨e2, h1, h2.of (fun k hk => e k (by have := (h2.lt k hk).1; omega))⟩
/-- a State is written into a box -/
abbrev st3 (w : World) (q : Nat) (r : Bool) (va sa : Value) : World := ((w.setCell ⟨q, 0, none⟩ (.bool r)).setCell ⟨q, 1, none⟩ va).setCell ⟨q, 2, none⟩ sa
theorem Bs.put3 {w : World} {q : Nat} {r0 : Bool} {va0 sa0 : Value} (h : Bs w q r0 va0 sa0) (r : Bool) (va sa : Value) : Bs (st3 w q r va sa) q r va sa := by
  have c0 := h.c0
  have c1 := h.c1
  have c2 := h.c2
  unfold st3
  refine ⟨?_, ?_, ?_⟩ <;> simp [go_sem, *]
theorem st3_block (w : World) (q : Nat) (r : Bool) (va sa : Value) (k : Nat) (h : k ≠ q) : (st3 w q r va sa).heap[k]? = w.heap[k]? :=
  (set_block _ q 2 sa k h).trans ((set_block _ q 1 va k h).trans (set_block _ q 0 _ k h))
theorem st3_size (w : World) (q : Nat) (r : Bool) (va sa : Value) : (st3 w q r va sa).heap.size = w.heap.size := by unfold st3; simp
theorem st3_below {N : Nat} {w0 w : World} (h : Below N w0 w) (q : Nat) (hq : N ≤ q) (r : Bool) (va sa : Value) : Below N w0 (st3 w q r va sa) :=
  ((h.setCell (p := ⟨q, 0, none⟩) hq _).setCell (p := ⟨q, 1, none⟩) hq va).setCell (p := ⟨q, 2, none⟩) hq sa
theorem Fs.put3 {w : World} {q p : Nat} (h : Fs w q) (r : Bool) (va sa : Value) : Fs (st3 w p r va sa) q := ((h.put _ _).put _ _).put _ _
/-- the State of the box goes into the result's -/
theorem Lo.fin {w wr : World} {N B q q1 : Nat} {T : TypeId} {s : S} {va sa : Value} {es : List Value} {r0 : Bool} {va0 sa0 : Value} (h : Lo wr B q T s va sa es) (hb : Bs wr q1 r0 va0 sa0) (hp : q1 < B) (hne : q1 ≠ q) (hw : Below N w wr) (hN : N ≤ q1) :
    Bs (st3 wr q1 s.r va sa) q1 s.r va sa ∧ Rn (st3 wr q1 s.r va sa) N (.agg #[.bool s.r, va, sa]) s ∧ Below N w (st3 wr q1 s.r va sa) :=
  ⟨hb.put3 _ _ _, (((h.far q1 0 _ hp hne).far q1 1 _ hp hne).far q1 2 _ hp hne).rn.mono (by omega), st3_below hw q1 hN _ _ _⟩
end Go.Proofs.Ytmhicllhjiglkaa
namespace Go.Proofs.Ytmhicllhjiglkaa
open Go.ChangeShapes Go.WideShapes Go.ChangeAt Go.RowKit Go.Deep
theorem own : ownKnob Try.prog.godebug = none := by kernel_rfl
theorem laidOut : laidOutB Try.prog = true := by kernel_rfl
theorem i64_of_wf {n : Int} (h : (Lit.int .i64 n).wf = true) : i64 n := by
  simp only [Lit.wf, Bool.and_eq_true, decide_eq_true_eq] at h
  exact ⟨h.1, h.2⟩
theorem Try.cells38 : Try.prog.cellsOf 38 = 1 := by kernel_rfl
theorem Try.cells22 : Try.prog.cellsOf 22 = 1 := by kernel_rfl
theorem Try.cells23 : Try.prog.cellsOf 23 = 1 := by kernel_rfl
theorem Try.cells25 : Try.prog.cellsOf 25 = 3 := by kernel_rfl
theorem Try.cells42 : Try.prog.cellsOf 42 = 3 := by kernel_rfl
theorem Try.cells2 : Try.prog.cellsOf 2 = 1 := by kernel_rfl
theorem Try.cells3 : Try.prog.cellsOf 3 = 1 := by kernel_rfl
theorem Try.cells4 : Try.prog.cellsOf 4 = 1 := by kernel_rfl
theorem Try.cells44 : Try.prog.cellsOf 44 = 2 := by kernel_rfl
theorem Try.cells46 : Try.prog.cellsOf 46 = 2 := by kernel_rfl
theorem Try.cells48 : Try.prog.cellsOf 48 = 6 := by kernel_rfl
theorem six_of {cs : Array Value} (h : cs.size = 6) : ∃ c0 c1 c2 c3 c4 c5, cs = #[c0, c1, c2, c3, c4, c5] := by
  obtain ⟨l⟩ := cs
  match l, h with
  | [c0, c1, c2, c3, c4, c5], _ => exact ⟨c0, c1, c2, c3, c4, c5, rfl⟩
/-- the two cells of a Known, of a Span -/
theorem known_cells {H : Type} {enc : TypeId × Value → H} {W : World} {base : Nat} {sp : Nat → Bool} {held : Bool} {fuel : Nat} {c0 c1 : Value} {d : DataW H × List MemPlace}
    (hf : DataW.trod enc Try.prog W base sp held fuel 44 [c0, c1] = some d) : ∃ a b, c0 = .bool a ∧ c1 = .int .i64 b ∧ i64 b := by
  obtain ⟨d1, d2⟩ := d
  obtain ⟨xs, m, _, _, _, hl, hx⟩ := DataW.trod_struct Try.underlying44 hf
  have g0 : DataW.trod enc Try.prog W base sp held m 4 (([c0, c1].drop 0).take (Try.prog.cellsOf 4)) = xs[0]? := hx 0 _ rfl
  have g1 : DataW.trod enc Try.prog W base sp held m 2 (([c0, c1].drop 1).take (Try.prog.cellsOf 2)) = xs[1]? := hx 1 _ rfl
  rw [Try.cells4] at g0
  rw [Try.cells2] at g1
  simp only [List.drop, List.take] at g0 g1
  have hl2 : xs.length = 2 := hl
  cases e0 : xs[0]? with
  | none => have := List.getElem?_eq_none_iff.1 e0; omega
  | some y0 =>
    cases e1 : xs[1]? with
    | none => have := List.getElem?_eq_none_iff.1 e1; omega
    | some y1 =>
      rw [e0] at g0
      rw [e1] at g1
      obtain ⟨a, ha, _⟩ := DataW.trod_bool Try.underlying4 g0
      obtain ⟨b, hb, _, wb⟩ := DataW.trod_int Try.underlying2 g1
      simp at ha hb
      exact ⟨a, b, ha, hb, i64_of_wf wb⟩
theorem span_cells {H : Type} {enc : TypeId × Value → H} {W : World} {base : Nat} {sp : Nat → Bool} {held : Bool} {fuel : Nat} {c0 c1 : Value} {d : DataW H × List MemPlace}
    (hf : DataW.trod enc Try.prog W base sp held fuel 46 [c0, c1] = some d) : ∃ a b, c0 = .int .i64 a ∧ c1 = .int .i64 b ∧ i64 a ∧ i64 b := by
  obtain ⟨d1, d2⟩ := d
  obtain ⟨xs, m, _, _, _, hl, hx⟩ := DataW.trod_struct Try.underlying46 hf
  have g0 : DataW.trod enc Try.prog W base sp held m 2 (([c0, c1].drop 0).take (Try.prog.cellsOf 2)) = xs[0]? := hx 0 _ rfl
  have g1 : DataW.trod enc Try.prog W base sp held m 2 (([c0, c1].drop 1).take (Try.prog.cellsOf 2)) = xs[1]? := hx 1 _ rfl
  rw [Try.cells2] at g0 g1
  simp only [List.drop, List.take] at g0 g1
  have hl2 : xs.length = 2 := hl
  cases e0 : xs[0]? with
  | none => have := List.getElem?_eq_none_iff.1 e0; omega
  | some y0 =>
    cases e1 : xs[1]? with
    | none => have := List.getElem?_eq_none_iff.1 e1; omega
    | some y1 =>
      rw [e0] at g0
      rw [e1] at g1
      obtain ⟨a, ha, _, wa⟩ := DataW.trod_int Try.underlying2 g0
      obtain ⟨b, hb, _, wb⟩ := DataW.trod_int Try.underlying2 g1
      simp at ha hb
      exact ⟨a, b, ha, hb, i64_of_wf wa, i64_of_wf wb⟩
/-- the six cells of a Value -/
theorem val_cells {H : Type} {enc : TypeId × Value → H} {W : World} {base : Nat} {sp : Nat → Bool} {held : Bool} {fuel : Nat} {c0 c1 c2 c3 c4 c5 : Value} {d : DataW H × List MemPlace}
    (hf : DataW.trod enc Try.prog W base sp held fuel 48 [c0, c1, c2, c3, c4, c5] = some d) : ∃ r : R, c0 = .int .i64 r.s ∧ c1 = .bool r.k ∧ c2 = .int .i64 r.n ∧ c3 = .int .i64 r.lo ∧ c4 = .int .i64 r.hi ∧ c5 = .int .i64 r.p ∧ i64 r.n ∧ i64 r.lo ∧ i64 r.hi := by
  obtain ⟨d1, d2⟩ := d
  obtain ⟨xs, m, _, _, _, hl, hx⟩ := DataW.trod_struct Try.underlying48 hf
  have g0 : DataW.trod enc Try.prog W base sp held m 3 (([c0, c1, c2, c3, c4, c5].drop 0).take (Try.prog.cellsOf 3)) = xs[0]? := hx 0 _ rfl
  have g1 : DataW.trod enc Try.prog W base sp held m 44 (([c0, c1, c2, c3, c4, c5].drop 1).take (Try.prog.cellsOf 44)) = xs[1]? := hx 1 _ rfl
  have g2 : DataW.trod enc Try.prog W base sp held m 46 (([c0, c1, c2, c3, c4, c5].drop 3).take (Try.prog.cellsOf 46)) = xs[2]? := hx 2 _ rfl
  have g3 : DataW.trod enc Try.prog W base sp held m 3 (([c0, c1, c2, c3, c4, c5].drop 5).take (Try.prog.cellsOf 3)) = xs[3]? := hx 3 _ rfl
  rw [Try.cells3] at g0 g3
  rw [Try.cells44] at g1
  rw [Try.cells46] at g2
  simp only [List.drop, List.take] at g0 g1 g2 g3
  have hl2 : xs.length = 4 := hl
  cases e0 : xs[0]? with
  | none => have := List.getElem?_eq_none_iff.1 e0; omega
  | some y0 =>
    cases e1 : xs[1]? with
    | none => have := List.getElem?_eq_none_iff.1 e1; omega
    | some y1 =>
      cases e2 : xs[2]? with
      | none => have := List.getElem?_eq_none_iff.1 e2; omega
      | some y2 =>
        cases e3 : xs[3]? with
        | none => have := List.getElem?_eq_none_iff.1 e3; omega
        | some y3 =>
          rw [e0] at g0
          rw [e1] at g1
          rw [e2] at g2
          rw [e3] at g3
          obtain ⟨a, ha, _, _⟩ := DataW.trod_int Try.underlying3 g0
          obtain ⟨k, n, hk, hn, wn⟩ := known_cells g1
          obtain ⟨l, h, hl, hh, wl, wh⟩ := span_cells g2
          obtain ⟨b, hb, _, _⟩ := DataW.trod_int Try.underlying3 g3
          simp at ha hb
          exact ⟨⟨a, k, n, l, h, b⟩, ha, hk, hn, hl, hh, hb, wn, wl, wh⟩
set_option maxRecDepth 100000 in
theorem open_val {H : Type} {enc : TypeId × Value → H} {W : World} {r : Reach} {b0 base : Nat} {sp : Nat → Bool} {held : Bool} {v : Value} {d : DataW H} {p : List MemPlace}
    (hval : Value.okWide Try.prog W r b0 48 v) (h : DataW.Trod enc Try.prog W base sp held 48 v d p) : ∃ x : R, v = .agg #[.int .i64 x.s, .bool x.k, .int .i64 x.n, .int .i64 x.lo, .int .i64 x.hi, .int .i64 x.p] ∧ i64 x.n ∧ i64 x.lo ∧ i64 x.hi := by
  obtain ⟨cs, rfl, h2⟩ := okWide_struct Try.underlying48 hval
  rw [Try.cells48] at h2
  obtain ⟨c0, c1, c2, c3, c4, c5, rfl⟩ := six_of h2
  obtain ⟨fuel, hf⟩ := h
  obtain ⟨x, h0, h1, h2, h3, h4, h5, i1, i2, i3⟩ := val_cells hf
  exact ⟨x, by rw [h0, h1, h2, h3, h4, h5], i1, i2, i3⟩
/-- a row of Values that came in, opened -/
theorem vals_cells {H : Type} {enc : TypeId × Value → H} {W : World} {base : Nat} {fuel : Nat} {cc : Value} {d : DataW H × List MemPlace}
    (hf : DataW.trod enc Try.prog W base (fun _ => true) true fuel 22 [cc] = some d) : ∃ a cap, ∃ ts : List R, cc = .slice a (List.length ts) cap ∧ RV W a ts ∧ (∀ (m : Nat) (x : R), ts[m]? = some x → i64 x.n ∧ i64 x.lo ∧ i64 x.hi) ∧ ts.length ≤ cap ∧ (a = none → cap = 0) := by
  rcases open_slice Try.underlying22 hf with ⟨hcs, _⟩ | ⟨x, l, c, m, n, D, Pl, hcs, _, hl, _, hmm, hx, hall⟩
  · simp at hcs
    subst hcs
    exact ⟨none, 0, [], rfl, RV.nil _ _, fun m t h => by simp at h, Nat.le_refl _, fun _ => rfl⟩
  · simp at hcs
    subst hcs
    simp only [if_true] at hmm
    subst hmm
    have each : ∀ i, i < l → ∃ t : R, (i64 t.n ∧ i64 t.lo ∧ i64 t.hi) ∧ W.cell? (x.add (i * 6)) = some (.int .i64 t.s) ∧ W.cell? (x.add (i * 6 + 1)) = some (.bool t.k) ∧ W.cell? (x.add (i * 6 + 2)) = some (.int .i64 t.n) ∧ W.cell? (x.add (i * 6 + 3)) = some (.int .i64 t.lo) ∧ W.cell? (x.add (i * 6 + 4)) = some (.int .i64 t.hi) ∧ W.cell? (x.add (i * 6 + 5)) = some (.int .i64 t.p) := by
      intro i hi
      obtain ⟨cs', h1, h2⟩ := hall i (by omega)
      rw [Try.cells48] at h1
      obtain ⟨_, hlen, hcell⟩ := World.cells?_some h1
      have hc2 : ∃ v0 v1 v2 v3 v4 v5, cs' = [v0, v1, v2, v3, v4, v5] := by
        match cs', hlen with
        | [v0, v1, v2, v3, v4, v5], _ => exact ⟨v0, v1, v2, v3, v4, v5, rfl⟩
      obtain ⟨v0, v1, v2, v3, v4, v5, rfl⟩ := hc2
      obtain ⟨t, e0, e1, e2, e3, e4, e5, i1, i2, i3⟩ := val_cells h2
      have d0 := hcell 0 (by omega)
      have d1 := hcell 1 (by omega)
      have d2 := hcell 2 (by omega)
      have d3 := hcell 3 (by omega)
      have d4 := hcell 4 (by omega)
      have d5 := hcell 5 (by omega)
      rw [Go.Deep.add_add] at d0 d1 d2 d3 d4 d5
      refine ⟨t, ⟨i1, i2, i3⟩, ?_, ?_, ?_, ?_, ?_, ?_⟩
      · rw [e0] at d0; simpa using d0
      · rw [e1] at d1; simpa using d1
      · rw [e2] at d2; simpa using d2
      · rw [e3] at d3; simpa using d3
      · rw [e4] at d4; simpa using d4
      · rw [e5] at d5; simpa using d5
    haveI : Inhabited R := ⟨⟨0, false, 0, 0, 0, 0⟩⟩
    obtain ⟨T, hT⟩ := choose_lt each
    obtain ⟨b, o, s⟩ := x
    by_cases hl0 : l = 0
    · subst hl0
      exact ⟨_, _, [], rfl, RV.nil _ _, fun m t h => by simp at h, Nat.zero_le _, fun e => by cases e⟩
    have z0 := (hT 0 (by omega)).2.1
    have hsn : s = none := by simpa [Addr.add] using World.cell?_spot z0
    subst hsn
    refine ⟨some ⟨b, o, none⟩, _, (List.range l).map T, by rw [List.length_map, List.length_range], ?_, ?_, by simpa using hl, fun e => by cases e⟩
    · intro i t hi
      simp only [List.getElem?_map, Option.map_eq_some_iff] at hi
      obtain ⟨n', hn', rfl⟩ := hi
      obtain ⟨hlt, hn''⟩ := List.getElem?_eq_some_iff.1 hn'
      simp at hlt hn''
      subst hn''
      obtain ⟨j0, d0, d1, d2, d3, d4, d5⟩ := hT i hlt
      rw [addr_none] at d0 d1 d2 d3 d4 d5
      refine ⟨b, o, rfl, d0, ?_, ?_, ?_, ?_, ?_⟩
      · rw [← Nat.add_assoc] at d1; exact d1
      · rw [← Nat.add_assoc] at d2; exact d2
      · rw [← Nat.add_assoc] at d3; exact d3
      · rw [← Nat.add_assoc] at d4; exact d4
      · rw [← Nat.add_assoc] at d5; exact d5
    · intro i t hi
      simp only [List.getElem?_map, Option.map_eq_some_iff] at hi
      obtain ⟨n', hn', rfl⟩ := hi
      obtain ⟨hlt, hn''⟩ := List.getElem?_eq_some_iff.1 hn'
      simp at hlt hn''
      subst hn''
      exact (hT i hlt).1
/-- rows of numbers that came in, opened -/
theorem rows_cells {H : Type} {enc : TypeId × Value → H} {W : World} {base : Nat} {fuel : Nat} {cc : Value} {d : DataW H × List MemPlace}
    (hf : DataW.trod enc Try.prog W base (fun _ => true) true fuel 23 [cc] = some d) : ∃ b dd, ∃ ss : List (List Int), cc = .slice b (List.length ss) dd ∧ RR W b ss ∧ ss.length ≤ dd ∧ (b = none → dd = 0) := by
  rcases open_int_rows Try.underlying23 Try.underlying38 Try.underlying3 Try.cells38 Try.cells3 hf with ⟨hcs, _⟩ | ⟨x, len, cap, A, L, C, Z, hcs, _, hl, _, _, hall⟩
  · simp at hcs
    subst hcs
    exact ⟨none, 0, [], rfl, RR.nil _ _, Nat.le_refl _, fun _ => rfl⟩
  · simp at hcs
    subst hcs
    obtain ⟨b, o, s⟩ := x
    by_cases hl0 : cap = 0
    · have : len = 0 := by omega
      subst this
      exact ⟨_, _, [], rfl, RR.nil _ _, Nat.zero_le _, fun e => by cases e⟩
    have z0 := (hall 0 (by omega)).1
    have hsn : s = none := by simpa [Addr.add] using World.cell?_spot z0
    subst hsn
    refine ⟨some ⟨b, o, none⟩, cap, (List.range len).map (fun r => (Z r).take (L r)), by rw [List.length_map, List.length_range], ?_, by simpa using hl, fun e => by cases e⟩
    intro i l hi
    simp only [List.getElem?_map, Option.map_eq_some_iff] at hi
    obtain ⟨n', hn', rfl⟩ := hi
    obtain ⟨hlt, hn''⟩ := List.getElem?_eq_some_iff.1 hn'
    simp at hlt hn''
    subst hn''
    obtain ⟨h1, h2, h3, h4, h5, h6, h7⟩ := hall i (by omega)
    rw [addr_none] at h1
    have hlen : ((Z i).take (L i)).length = L i := by rw [List.length_take]; omega
    refine ⟨b, o, _, rfl, h1, A i, C i, by rw [hlen], fun m y hm => ?_, by rw [hlen]; exact h2, h6⟩
    have hmL : m < L i := by
      rcases Nat.lt_or_ge m (L i) with t | t
      · exact t
      · rw [List.getElem?_eq_none (by rw [hlen]; exact t)] at hm; cases hm
    have hmC : m < C i := by omega
    rw [List.getElem?_take, if_pos hmL] at hm
    cases hA : A i with
    | none => have := h6 hA; omega
    | some ad =>
      obtain ⟨b2, o2, s2⟩ := ad
      have h8 := (h7 _ hA).2
      have z1 := h8 0 (by omega)
      have hs2 : s2 = none := by simpa [Addr.add] using World.cell?_spot z1
      subst hs2
      have h9 := h8 m hmC
      rw [addr_none] at h9
      refine ⟨b2, o2, rfl, ?_⟩
      rw [h9, List.getD_eq_getElem?_getD, hm]; rfl
set_option maxRecDepth 100000 in
/-- a State that came in, opened -/
theorem open_state {H : Type} {enc : TypeId × Value → H} {W : World} {r : Reach} {b0 base : Nat} {v : Value} {d : DataW H} {p : List MemPlace}
    (hval : Value.okWide Try.prog W r b0 25 v) (h : DataW.Trod enc Try.prog W base (fun _ => true) true 25 v d p) : ∃ rr a c b dd, ∃ (vs : List R) (ss : List (List Int)), v = .agg #[.bool rr, .slice a vs.length c, .slice b ss.length dd] ∧ RV W a vs ∧ RR W b ss ∧ (∀ (m : Nat) (x : R), vs[m]? = some x → i64 x.n ∧ i64 x.lo ∧ i64 x.hi) ∧ vs.length ≤ c ∧ ss.length ≤ dd ∧ (a = none → c = 0) ∧ (b = none → dd = 0) := by
  obtain ⟨cs, rfl, h2⟩ := okWide_struct Try.underlying25 hval
  rw [Try.cells25] at h2
  obtain ⟨c0, c1, c2, rfl⟩ : ∃ c0 c1 c2, cs = #[c0, c1, c2] := by
    obtain ⟨l⟩ := cs
    match l, h2 with
    | [c0, c1, c2], _ => exact ⟨c0, c1, c2, rfl⟩
  obtain ⟨fuel, hf⟩ := h
  have hf' : DataW.trod enc Try.prog W base (fun _ => true) true fuel 25 [c0, c1, c2] = some (d, p) := hf
  obtain ⟨xs, m, _, _, _, hl, hx⟩ := DataW.trod_struct Try.underlying25 hf'
  have g0 : DataW.trod enc Try.prog W base (fun _ => true) true m 4 (([c0, c1, c2].drop 0).take (Try.prog.cellsOf 4)) = xs[0]? := hx 0 _ rfl
  have g1 : DataW.trod enc Try.prog W base (fun _ => true) true m 22 (([c0, c1, c2].drop 1).take (Try.prog.cellsOf 22)) = xs[1]? := hx 1 _ rfl
  have g2 : DataW.trod enc Try.prog W base (fun _ => true) true m 23 (([c0, c1, c2].drop 2).take (Try.prog.cellsOf 23)) = xs[2]? := hx 2 _ rfl
  rw [Try.cells4] at g0
  rw [Try.cells22] at g1
  rw [Try.cells23] at g2
  simp only [List.drop, List.take] at g0 g1 g2
  have hl2 : xs.length = 3 := hl
  cases e0 : xs[0]? with
  | none => have := List.getElem?_eq_none_iff.1 e0; omega
  | some y0 =>
    cases e1 : xs[1]? with
    | none => have := List.getElem?_eq_none_iff.1 e1; omega
    | some y1 =>
      cases e2 : xs[2]? with
      | none => have := List.getElem?_eq_none_iff.1 e2; omega
      | some y2 =>
        rw [e0] at g0
        rw [e1] at g1
        rw [e2] at g2
        obtain ⟨rr, ha, _⟩ := DataW.trod_bool Try.underlying4 g0
        obtain ⟨a, c, vs, rfl, k1, k2, k3, k4⟩ := vals_cells g1
        obtain ⟨b, dd, ss, rfl, k5, k6, k7⟩ := rows_cells g2
        simp at ha
        subst ha
        exact ⟨rr, a, c, b, dd, vs, ss, rfl, k1, k5, k2, k3, k6, k4, k7⟩
set_option maxRecDepth 100000 in
/-- how a function begins, as it came in, opened -/
theorem open_args {H : Type} {enc : TypeId × Value → H} {W : World} {r : Reach} {b0 base : Nat} {v : Value} {d : DataW H} {p : List MemPlace}
    (hval : Value.okWide Try.prog W r b0 42 v) (h : DataW.Trod enc Try.prog W base (fun _ => true) true 42 v d p) : ∃ n first a c, ∃ (vs : List R), v = .agg #[.int .i64 n, .slice a vs.length c, .int .i64 first] ∧ RV W a vs ∧ (∀ (m : Nat) (x : R), vs[m]? = some x → i64 x.n ∧ i64 x.lo ∧ i64 x.hi) := by
  obtain ⟨cs, rfl, h2⟩ := okWide_struct Try.underlying42 hval
  rw [Try.cells42] at h2
  obtain ⟨c0, c1, c2, rfl⟩ : ∃ c0 c1 c2, cs = #[c0, c1, c2] := by
    obtain ⟨l⟩ := cs
    match l, h2 with
    | [c0, c1, c2], _ => exact ⟨c0, c1, c2, rfl⟩
  obtain ⟨fuel, hf⟩ := h
  have hf' : DataW.trod enc Try.prog W base (fun _ => true) true fuel 42 [c0, c1, c2] = some (d, p) := hf
  obtain ⟨xs, m, _, _, _, hl, hx⟩ := DataW.trod_struct Try.underlying42 hf'
  have g0 : DataW.trod enc Try.prog W base (fun _ => true) true m 3 (([c0, c1, c2].drop 0).take (Try.prog.cellsOf 3)) = xs[0]? := hx 0 _ rfl
  have g1 : DataW.trod enc Try.prog W base (fun _ => true) true m 22 (([c0, c1, c2].drop 1).take (Try.prog.cellsOf 22)) = xs[1]? := hx 1 _ rfl
  have g2 : DataW.trod enc Try.prog W base (fun _ => true) true m 3 (([c0, c1, c2].drop 2).take (Try.prog.cellsOf 3)) = xs[2]? := hx 2 _ rfl
  rw [Try.cells3] at g0 g2
  rw [Try.cells22] at g1
  simp only [List.drop, List.take] at g0 g1 g2
  have hl2 : xs.length = 3 := hl
  cases e0 : xs[0]? with
  | none => have := List.getElem?_eq_none_iff.1 e0; omega
  | some y0 =>
    cases e1 : xs[1]? with
    | none => have := List.getElem?_eq_none_iff.1 e1; omega
    | some y1 =>
      cases e2 : xs[2]? with
      | none => have := List.getElem?_eq_none_iff.1 e2; omega
      | some y2 =>
        rw [e0] at g0
        rw [e1] at g1
        rw [e2] at g2
        obtain ⟨n, ha, _, _⟩ := DataW.trod_int Try.underlying3 g0
        obtain ⟨a, c, vs, rfl, k1, k2, k3, k4⟩ := vals_cells g1
        obtain ⟨first, hb, _, _⟩ := DataW.trod_int Try.underlying3 g2
        simp at ha hb
        subst ha hb
        exact ⟨n, first, a, c, vs, rfl, k1, k2⟩
end Go.Proofs.Ytmhicllhjiglkaa
namespace Go.Proofs.Ytmhicllhjiglkaa
open Go.RowKit
theorem Br.known {w : World} {q : Nat} {s : Int} {k : Bool} {n lo hi p : Int} (h : Br w q s k n lo hi p) (k' : Bool) (n' : Int) : Br ((w.setCell ⟨q, 1, none⟩ (.bool k')).setCell ⟨q, 2, none⟩ (.int .i64 n')) q s k' n' lo hi p := by
  have c0 := h.c0
  have c1 := h.c1
  have c2 := h.c2
  have c3 := h.c3
  have c4 := h.c4
  have c5 := h.c5
  refine ⟨?_, ?_, ?_, ?_, ?_, ?_⟩ <;> simp [go_sem, *]
theorem Br.span {w : World} {q : Nat} {s : Int} {k : Bool} {n lo hi p : Int} (h : Br w q s k n lo hi p) (lo' hi' : Int) : Br ((w.setCell ⟨q, 3, none⟩ (.int .i64 lo')).setCell ⟨q, 4, none⟩ (.int .i64 hi')) q s k n lo' hi' p := by
  have c0 := h.c0
  have c1 := h.c1
  have c2 := h.c2
  have c3 := h.c3
  have c4 := h.c4
  have c5 := h.c5
  refine ⟨?_, ?_, ?_, ?_, ?_, ?_⟩ <;> simp [go_sem, *]
theorem Br.two {w : World} {q r : Nat} {s : Int} {k : Bool} {n lo hi p : Int} (h : Br w r s k n lo hi p) (hq : r ≠ q) (i j : Nat) (u v : Value) : Br ((w.setCell ⟨q, i, none⟩ u).setCell ⟨q, j, none⟩ v) r s k n lo hi p := by
  have ne : ∀ o i : Nat, (⟨q, i, none⟩ : Addr) ≠ ⟨r, o, none⟩ := fun o i t => hq (congrArg Addr.block t).symm
  exact ⟨(World.cell?_setCell_other _ _ _ _ (ne 0 j)).trans ((World.cell?_setCell_other _ _ _ _ (ne 0 i)).trans h.c0), (World.cell?_setCell_other _ _ _ _ (ne 1 j)).trans ((World.cell?_setCell_other _ _ _ _ (ne 1 i)).trans h.c1), (World.cell?_setCell_other _ _ _ _ (ne 2 j)).trans ((World.cell?_setCell_other _ _ _ _ (ne 2 i)).trans h.c2), (World.cell?_setCell_other _ _ _ _ (ne 3 j)).trans ((World.cell?_setCell_other _ _ _ _ (ne 3 i)).trans h.c3), (World.cell?_setCell_other _ _ _ _ (ne 4 j)).trans ((World.cell?_setCell_other _ _ _ _ (ne 4 i)).trans h.c4), (World.cell?_setCell_other _ _ _ _ (ne 5 j)).trans ((World.cell?_setCell_other _ _ _ _ (ne 5 i)).trans h.c5)⟩
theorem Fz.two {w : World} {q r : Nat} (h : Fz w r) (i j : Nat) (u v : Value) : Fz ((w.setCell ⟨q, i, none⟩ u).setCell ⟨q, j, none⟩ v) r := by
  have f0 := h.f0
  have f1 := h.f1
  have f2 := h.f2
  have f3 := h.f3
  have f4 := h.f4
  have f5 := h.f5
  refine ⟨?_, ?_, ?_, ?_, ?_, ?_⟩ <;> simp [*]
theorem two_below {N : Nat} {w0 w : World} (h : Below N w0 w) (q i j : Nat) (hq : N ≤ q) (u v : Value) : Below N w0 ((w.setCell ⟨q, i, none⟩ u).setCell ⟨q, j, none⟩ v) :=
  (h.setCell (p := ⟨q, i, none⟩) hq u).setCell (p := ⟨q, j, none⟩) hq v
end Go.Proofs.Ytmhicllhjiglkaa
namespace Go.Proofs.Ytmhicllhjiglkaa
open Go.RowKit
def someV (x : V) (is : Bool) : V × Bool := if is = true ∧ x.s ≠ 0 ∧ x.p ≠ 0 then (x, true) else (zeroV, false)
set_option maxRecDepth 100000 in
set_option maxHeartbeats 16000000 in
theorem some_V (x : V) (is : Bool) (w : World) : Calls Try.prog 113 #[.agg #[.int .i64 (up x.s), .bool x.k, .int .i64 x.n, .int .i64 x.lo, .int .i64 x.hi, .int .i64 (up x.p)], .bool is] w fun e w' => e = .returned (.tuple #[.agg #[.int .i64 (up (someV x is).1.s), .bool (someV x is).1.k, .int .i64 (someV x is).1.n, .int .i64 (someV x is).1.lo, .int .i64 (someV x is).1.hi, .int .i64 (up (someV x is).1.p)], .bool (someV x is).2]) ∧ Below w.heap.size w w' := by
  cases is
  · have HR : Hid (someV x false = (zeroV, false)) := by unfold Hid someV; rw [if_neg (by simp)]
    generalize someV x false = r at *
    have x0 : Br ((w.alloc (.cells #[.int .i64 (up x.s), .bool x.k, .int .i64 x.n, .int .i64 x.lo, .int .i64 x.hi, .int .i64 (up x.p)] 53)).alloc (.cells #[.int .i64 0, .bool false, .int .i64 0, .int .i64 0, .int .i64 0, .int .i64 0] 53)) (w.heap.size) (up x.s) x.k x.n x.lo x.hi (up x.p) := ((Br.new w (up x.s) x.k x.n x.lo x.hi (up x.p) 53)).keep ((Below.refl _ _).alloc (Nat.le_refl _) _)
    have x1 : Br ((w.alloc (.cells #[.int .i64 (up x.s), .bool x.k, .int .i64 x.n, .int .i64 x.lo, .int .i64 x.hi, .int .i64 (up x.p)] 53)).alloc (.cells #[.int .i64 0, .bool false, .int .i64 0, .int .i64 0, .int .i64 0, .int .i64 0] 53)) (w.heap.size + 1) 0 false 0 0 0 0 := (by simpa using Br.new (w.alloc (.cells #[.int .i64 (up x.s), .bool x.k, .int .i64 x.n, .int .i64 x.lo, .int .i64 x.hi, .int .i64 (up x.p)] 53)) 0 false 0 0 0 0 53 : Br ((w.alloc (.cells #[.int .i64 (up x.s), .bool x.k, .int .i64 x.n, .int .i64 x.lo, .int .i64 x.hi, .int .i64 (up x.p)] 53)).alloc (.cells #[.int .i64 0, .bool false, .int .i64 0, .int .i64 0, .int .i64 0, .int .i64 0] 53)) (w.heap.size + 1) 0 false 0 0 0 0)
    have xf : Fz ((w.alloc (.cells #[.int .i64 (up x.s), .bool x.k, .int .i64 x.n, .int .i64 x.lo, .int .i64 x.hi, .int .i64 (up x.p)] 53)).alloc (.cells #[.int .i64 0, .bool false, .int .i64 0, .int .i64 0, .int .i64 0, .int .i64 0] 53)) (w.heap.size + 1) := by simpa using Fz.new (w.alloc (.cells #[.int .i64 (up x.s), .bool x.k, .int .i64 x.n, .int .i64 x.lo, .int .i64 x.hi, .int .i64 (up x.p)] 53)) 0 false 0 0 0 0 53
    have xb : Below w.heap.size w ((w.alloc (.cells #[.int .i64 (up x.s), .bool x.k, .int .i64 x.n, .int .i64 x.lo, .int .i64 x.hi, .int .i64 (up x.p)] 53)).alloc (.cells #[.int .i64 0, .bool false, .int .i64 0, .int .i64 0, .int .i64 0, .int .i64 0] 53)) := (by repeat (first | exact Below.refl _ _ | (refine Below.drew ?_) | (refine below_drewN ?_ _) | (refine Below.setCell ?_ (by first | omega | (simp; done) | (simp; omega)) _) | (refine Below.alloc ?_ (by first | omega | (simp; done) | (simp; omega)) _) | (refine Below.trans ?_ (Below.mono (by assumption) (by first | omega | (simp; done) | (simp; omega))))))
    go_enter Try.func113, Try.ntmps113
    go_upto_region 1 with fail
    go_name_world W hW
    rw [hW] at x0 x1 xf xb
    clear hW
    obtain ⟨N, hN⟩ : ∃ N, N = w.heap.size := ⟨_, rfl⟩
    rw [← hN] at x0 x1 xf xb ⊢
    have HN : Hid (N = w.heap.size) := hN
    clear hN
    have HA := hide (And.intro x0 (And.intro x1 (And.intro xf xb)))
    clear x0 x1 xf xb
    have a0 := HA.out.1.c0
    have a1 := HA.out.1.c1
    have a2 := HA.out.1.c2
    have a3 := HA.out.1.c3
    have a4 := HA.out.1.c4
    have a5 := HA.out.1.c5
    have b0 := HA.out.2.1.c0
    have b1 := HA.out.2.1.c1
    have b2 := HA.out.2.1.c2
    have b3 := HA.out.2.1.c3
    have b4 := HA.out.2.1.c4
    have b5 := HA.out.2.1.c5
    have f0 := HA.out.2.2.1.f0
    have f1 := HA.out.2.2.1.f1
    have f2 := HA.out.2.2.1.f2
    have f3 := HA.out.2.2.1.f3
    have f4 := HA.out.2.2.1.f4
    have f5 := HA.out.2.2.1.f5
    go_wp2_with fail
    have zw := HA.out.2.1.wrote 0 false 0 0 0 0
    have hZ := st6_below HA.out.2.2.2 (N + 1) (Nat.le_succ _) (.int .i64 0) (.bool false) (.int .i64 0) (.int .i64 0) (.int .i64 0) (.int .i64 0)
    clear HA a0 a1 a2 a3 a4 a5 b0 b1 b2 b3 b4 b5 f0 f1 f2 f3 f4 f5
    have a0 := zw.c0
    have a1 := zw.c1
    have a2 := zw.c2
    have a3 := zw.c3
    have a4 := zw.c4
    have a5 := zw.c5
    clear zw
    refine bodyPost_ret (by simp [results, Try.results113, go_sem, *]; try rfl) rfl ⟨?_, by rw [← HN.out]; exact hZ⟩
    rw [HR.out] <;> rfl
  · by_cases hs : x.s = 0
    · have HR : Hid (someV x true = (zeroV, false)) := by unfold Hid someV; rw [if_neg (fun t => t.2.1 hs)]
      generalize someV x true = r at *
      have d1 : (up x.s == 0) = true := by rw [show (0 : Int) = up 0 from rfl, up_beq, beq_iff_eq]; exact hs
      clear hs
      have x0 : Br ((w.alloc (.cells #[.int .i64 (up x.s), .bool x.k, .int .i64 x.n, .int .i64 x.lo, .int .i64 x.hi, .int .i64 (up x.p)] 53)).alloc (.cells #[.int .i64 0, .bool false, .int .i64 0, .int .i64 0, .int .i64 0, .int .i64 0] 53)) (w.heap.size) (up x.s) x.k x.n x.lo x.hi (up x.p) := ((Br.new w (up x.s) x.k x.n x.lo x.hi (up x.p) 53)).keep ((Below.refl _ _).alloc (Nat.le_refl _) _)
      have x1 : Br ((w.alloc (.cells #[.int .i64 (up x.s), .bool x.k, .int .i64 x.n, .int .i64 x.lo, .int .i64 x.hi, .int .i64 (up x.p)] 53)).alloc (.cells #[.int .i64 0, .bool false, .int .i64 0, .int .i64 0, .int .i64 0, .int .i64 0] 53)) (w.heap.size + 1) 0 false 0 0 0 0 := (by simpa using Br.new (w.alloc (.cells #[.int .i64 (up x.s), .bool x.k, .int .i64 x.n, .int .i64 x.lo, .int .i64 x.hi, .int .i64 (up x.p)] 53)) 0 false 0 0 0 0 53 : Br ((w.alloc (.cells #[.int .i64 (up x.s), .bool x.k, .int .i64 x.n, .int .i64 x.lo, .int .i64 x.hi, .int .i64 (up x.p)] 53)).alloc (.cells #[.int .i64 0, .bool false, .int .i64 0, .int .i64 0, .int .i64 0, .int .i64 0] 53)) (w.heap.size + 1) 0 false 0 0 0 0)
      have xf : Fz ((w.alloc (.cells #[.int .i64 (up x.s), .bool x.k, .int .i64 x.n, .int .i64 x.lo, .int .i64 x.hi, .int .i64 (up x.p)] 53)).alloc (.cells #[.int .i64 0, .bool false, .int .i64 0, .int .i64 0, .int .i64 0, .int .i64 0] 53)) (w.heap.size + 1) := by simpa using Fz.new (w.alloc (.cells #[.int .i64 (up x.s), .bool x.k, .int .i64 x.n, .int .i64 x.lo, .int .i64 x.hi, .int .i64 (up x.p)] 53)) 0 false 0 0 0 0 53
      have xb : Below w.heap.size w ((w.alloc (.cells #[.int .i64 (up x.s), .bool x.k, .int .i64 x.n, .int .i64 x.lo, .int .i64 x.hi, .int .i64 (up x.p)] 53)).alloc (.cells #[.int .i64 0, .bool false, .int .i64 0, .int .i64 0, .int .i64 0, .int .i64 0] 53)) := (by repeat (first | exact Below.refl _ _ | (refine Below.drew ?_) | (refine below_drewN ?_ _) | (refine Below.setCell ?_ (by first | omega | (simp; done) | (simp; omega)) _) | (refine Below.alloc ?_ (by first | omega | (simp; done) | (simp; omega)) _) | (refine Below.trans ?_ (Below.mono (by assumption) (by first | omega | (simp; done) | (simp; omega))))))
      go_enter Try.func113, Try.ntmps113
      go_upto_region 1 with fail
      go_name_world W hW
      rw [hW] at x0 x1 xf xb
      clear hW
      obtain ⟨N, hN⟩ : ∃ N, N = w.heap.size := ⟨_, rfl⟩
      rw [← hN] at x0 x1 xf xb ⊢
      have HN : Hid (N = w.heap.size) := hN
      clear hN
      have HA := hide (And.intro x0 (And.intro x1 (And.intro xf xb)))
      clear x0 x1 xf xb
      have a0 := HA.out.1.c0
      have a1 := HA.out.1.c1
      have a2 := HA.out.1.c2
      have a3 := HA.out.1.c3
      have a4 := HA.out.1.c4
      have a5 := HA.out.1.c5
      have b0 := HA.out.2.1.c0
      have b1 := HA.out.2.1.c1
      have b2 := HA.out.2.1.c2
      have b3 := HA.out.2.1.c3
      have b4 := HA.out.2.1.c4
      have b5 := HA.out.2.1.c5
      have f0 := HA.out.2.2.1.f0
      have f1 := HA.out.2.2.1.f1
      have f2 := HA.out.2.2.1.f2
      have f3 := HA.out.2.2.1.f3
      have f4 := HA.out.2.2.1.f4
      have f5 := HA.out.2.2.1.f5
      go_wp2_with fail
      have zw := HA.out.2.1.wrote 0 false 0 0 0 0
      have hZ := st6_below HA.out.2.2.2 (N + 1) (Nat.le_succ _) (.int .i64 0) (.bool false) (.int .i64 0) (.int .i64 0) (.int .i64 0) (.int .i64 0)
      clear HA a0 a1 a2 a3 a4 a5 b0 b1 b2 b3 b4 b5 f0 f1 f2 f3 f4 f5
      have a0 := zw.c0
      have a1 := zw.c1
      have a2 := zw.c2
      have a3 := zw.c3
      have a4 := zw.c4
      have a5 := zw.c5
      clear zw
      refine bodyPost_ret (by simp [results, Try.results113, go_sem, *]; try rfl) rfl ⟨?_, by rw [← HN.out]; exact hZ⟩
      rw [HR.out] <;> rfl
    · by_cases hp : x.p = 0
      · have HR : Hid (someV x true = (zeroV, false)) := by unfold Hid someV; rw [if_neg (fun t => t.2.2 hp)]
        generalize someV x true = r at *
        have d1 : (up x.s == 0) = false := by rw [show (0 : Int) = up 0 from rfl, up_beq, beq_eq_false_iff_ne]; exact hs
        have d2 : (up x.p == 0) = true := by rw [show (0 : Int) = up 0 from rfl, up_beq, beq_iff_eq]; exact hp
        clear hs hp
        have x0 : Br ((w.alloc (.cells #[.int .i64 (up x.s), .bool x.k, .int .i64 x.n, .int .i64 x.lo, .int .i64 x.hi, .int .i64 (up x.p)] 53)).alloc (.cells #[.int .i64 0, .bool false, .int .i64 0, .int .i64 0, .int .i64 0, .int .i64 0] 53)) (w.heap.size) (up x.s) x.k x.n x.lo x.hi (up x.p) := ((Br.new w (up x.s) x.k x.n x.lo x.hi (up x.p) 53)).keep ((Below.refl _ _).alloc (Nat.le_refl _) _)
        have x1 : Br ((w.alloc (.cells #[.int .i64 (up x.s), .bool x.k, .int .i64 x.n, .int .i64 x.lo, .int .i64 x.hi, .int .i64 (up x.p)] 53)).alloc (.cells #[.int .i64 0, .bool false, .int .i64 0, .int .i64 0, .int .i64 0, .int .i64 0] 53)) (w.heap.size + 1) 0 false 0 0 0 0 := (by simpa using Br.new (w.alloc (.cells #[.int .i64 (up x.s), .bool x.k, .int .i64 x.n, .int .i64 x.lo, .int .i64 x.hi, .int .i64 (up x.p)] 53)) 0 false 0 0 0 0 53 : Br ((w.alloc (.cells #[.int .i64 (up x.s), .bool x.k, .int .i64 x.n, .int .i64 x.lo, .int .i64 x.hi, .int .i64 (up x.p)] 53)).alloc (.cells #[.int .i64 0, .bool false, .int .i64 0, .int .i64 0, .int .i64 0, .int .i64 0] 53)) (w.heap.size + 1) 0 false 0 0 0 0)
        have xf : Fz ((w.alloc (.cells #[.int .i64 (up x.s), .bool x.k, .int .i64 x.n, .int .i64 x.lo, .int .i64 x.hi, .int .i64 (up x.p)] 53)).alloc (.cells #[.int .i64 0, .bool false, .int .i64 0, .int .i64 0, .int .i64 0, .int .i64 0] 53)) (w.heap.size + 1) := by simpa using Fz.new (w.alloc (.cells #[.int .i64 (up x.s), .bool x.k, .int .i64 x.n, .int .i64 x.lo, .int .i64 x.hi, .int .i64 (up x.p)] 53)) 0 false 0 0 0 0 53
        have xb : Below w.heap.size w ((w.alloc (.cells #[.int .i64 (up x.s), .bool x.k, .int .i64 x.n, .int .i64 x.lo, .int .i64 x.hi, .int .i64 (up x.p)] 53)).alloc (.cells #[.int .i64 0, .bool false, .int .i64 0, .int .i64 0, .int .i64 0, .int .i64 0] 53)) := (by repeat (first | exact Below.refl _ _ | (refine Below.drew ?_) | (refine below_drewN ?_ _) | (refine Below.setCell ?_ (by first | omega | (simp; done) | (simp; omega)) _) | (refine Below.alloc ?_ (by first | omega | (simp; done) | (simp; omega)) _) | (refine Below.trans ?_ (Below.mono (by assumption) (by first | omega | (simp; done) | (simp; omega))))))
        go_enter Try.func113, Try.ntmps113
        go_upto_region 1 with fail
        go_name_world W hW
        rw [hW] at x0 x1 xf xb
        clear hW
        obtain ⟨N, hN⟩ : ∃ N, N = w.heap.size := ⟨_, rfl⟩
        rw [← hN] at x0 x1 xf xb ⊢
        have HN : Hid (N = w.heap.size) := hN
        clear hN
        have HA := hide (And.intro x0 (And.intro x1 (And.intro xf xb)))
        clear x0 x1 xf xb
        have a0 := HA.out.1.c0
        have a1 := HA.out.1.c1
        have a2 := HA.out.1.c2
        have a3 := HA.out.1.c3
        have a4 := HA.out.1.c4
        have a5 := HA.out.1.c5
        have b0 := HA.out.2.1.c0
        have b1 := HA.out.2.1.c1
        have b2 := HA.out.2.1.c2
        have b3 := HA.out.2.1.c3
        have b4 := HA.out.2.1.c4
        have b5 := HA.out.2.1.c5
        have f0 := HA.out.2.2.1.f0
        have f1 := HA.out.2.2.1.f1
        have f2 := HA.out.2.2.1.f2
        have f3 := HA.out.2.2.1.f3
        have f4 := HA.out.2.2.1.f4
        have f5 := HA.out.2.2.1.f5
        go_wp2_with fail
        have zw := HA.out.2.1.wrote 0 false 0 0 0 0
        have hZ := st6_below HA.out.2.2.2 (N + 1) (Nat.le_succ _) (.int .i64 0) (.bool false) (.int .i64 0) (.int .i64 0) (.int .i64 0) (.int .i64 0)
        clear HA a0 a1 a2 a3 a4 a5 b0 b1 b2 b3 b4 b5 f0 f1 f2 f3 f4 f5
        have a0 := zw.c0
        have a1 := zw.c1
        have a2 := zw.c2
        have a3 := zw.c3
        have a4 := zw.c4
        have a5 := zw.c5
        clear zw
        refine bodyPost_ret (by simp [results, Try.results113, go_sem, *]; try rfl) rfl ⟨?_, by rw [← HN.out]; exact hZ⟩
        rw [HR.out] <;> rfl
      · have HR : Hid (someV x true = (x, true)) := by unfold Hid someV; rw [if_pos ⟨rfl, hs, hp⟩]
        generalize someV x true = r at *
        have d1 : (up x.s == 0) = false := by rw [show (0 : Int) = up 0 from rfl, up_beq, beq_eq_false_iff_ne]; exact hs
        have d2 : (up x.p == 0) = false := by rw [show (0 : Int) = up 0 from rfl, up_beq, beq_eq_false_iff_ne]; exact hp
        clear hs hp
        have x0 : Br ((w.alloc (.cells #[.int .i64 (up x.s), .bool x.k, .int .i64 x.n, .int .i64 x.lo, .int .i64 x.hi, .int .i64 (up x.p)] 53)).alloc (.cells #[.int .i64 0, .bool false, .int .i64 0, .int .i64 0, .int .i64 0, .int .i64 0] 53)) (w.heap.size) (up x.s) x.k x.n x.lo x.hi (up x.p) := ((Br.new w (up x.s) x.k x.n x.lo x.hi (up x.p) 53)).keep ((Below.refl _ _).alloc (Nat.le_refl _) _)
        have x1 : Br ((w.alloc (.cells #[.int .i64 (up x.s), .bool x.k, .int .i64 x.n, .int .i64 x.lo, .int .i64 x.hi, .int .i64 (up x.p)] 53)).alloc (.cells #[.int .i64 0, .bool false, .int .i64 0, .int .i64 0, .int .i64 0, .int .i64 0] 53)) (w.heap.size + 1) 0 false 0 0 0 0 := (by simpa using Br.new (w.alloc (.cells #[.int .i64 (up x.s), .bool x.k, .int .i64 x.n, .int .i64 x.lo, .int .i64 x.hi, .int .i64 (up x.p)] 53)) 0 false 0 0 0 0 53 : Br ((w.alloc (.cells #[.int .i64 (up x.s), .bool x.k, .int .i64 x.n, .int .i64 x.lo, .int .i64 x.hi, .int .i64 (up x.p)] 53)).alloc (.cells #[.int .i64 0, .bool false, .int .i64 0, .int .i64 0, .int .i64 0, .int .i64 0] 53)) (w.heap.size + 1) 0 false 0 0 0 0)
        have xf : Fz ((w.alloc (.cells #[.int .i64 (up x.s), .bool x.k, .int .i64 x.n, .int .i64 x.lo, .int .i64 x.hi, .int .i64 (up x.p)] 53)).alloc (.cells #[.int .i64 0, .bool false, .int .i64 0, .int .i64 0, .int .i64 0, .int .i64 0] 53)) (w.heap.size + 1) := by simpa using Fz.new (w.alloc (.cells #[.int .i64 (up x.s), .bool x.k, .int .i64 x.n, .int .i64 x.lo, .int .i64 x.hi, .int .i64 (up x.p)] 53)) 0 false 0 0 0 0 53
        have xb : Below w.heap.size w ((w.alloc (.cells #[.int .i64 (up x.s), .bool x.k, .int .i64 x.n, .int .i64 x.lo, .int .i64 x.hi, .int .i64 (up x.p)] 53)).alloc (.cells #[.int .i64 0, .bool false, .int .i64 0, .int .i64 0, .int .i64 0, .int .i64 0] 53)) := (by repeat (first | exact Below.refl _ _ | (refine Below.drew ?_) | (refine below_drewN ?_ _) | (refine Below.setCell ?_ (by first | omega | (simp; done) | (simp; omega)) _) | (refine Below.alloc ?_ (by first | omega | (simp; done) | (simp; omega)) _) | (refine Below.trans ?_ (Below.mono (by assumption) (by first | omega | (simp; done) | (simp; omega))))))
        go_enter Try.func113, Try.ntmps113
        go_upto_region 1 with fail
        go_name_world W hW
        rw [hW] at x0 x1 xf xb
        clear hW
        obtain ⟨N, hN⟩ : ∃ N, N = w.heap.size := ⟨_, rfl⟩
        rw [← hN] at x0 x1 xf xb ⊢
        have HN : Hid (N = w.heap.size) := hN
        clear hN
        have HA := hide (And.intro x0 (And.intro x1 (And.intro xf xb)))
        clear x0 x1 xf xb
        have a0 := HA.out.1.c0
        have a1 := HA.out.1.c1
        have a2 := HA.out.1.c2
        have a3 := HA.out.1.c3
        have a4 := HA.out.1.c4
        have a5 := HA.out.1.c5
        have b0 := HA.out.2.1.c0
        have b1 := HA.out.2.1.c1
        have b2 := HA.out.2.1.c2
        have b3 := HA.out.2.1.c3
        have b4 := HA.out.2.1.c4
        have b5 := HA.out.2.1.c5
        have f0 := HA.out.2.2.1.f0
        have f1 := HA.out.2.2.1.f1
        have f2 := HA.out.2.2.1.f2
        have f3 := HA.out.2.2.1.f3
        have f4 := HA.out.2.2.1.f4
        have f5 := HA.out.2.2.1.f5
        go_wp2_with fail
        have zw := HA.out.2.1.wrote (up x.s) x.k x.n x.lo x.hi (up x.p)
        have hZ := st6_below HA.out.2.2.2 (N + 1) (Nat.le_succ _) (.int .i64 (up x.s)) (.bool x.k) (.int .i64 x.n) (.int .i64 x.lo) (.int .i64 x.hi) (.int .i64 (up x.p))
        clear HA a0 a1 a2 a3 a4 a5 b0 b1 b2 b3 b4 b5 f0 f1 f2 f3 f4 f5
        have a0 := zw.c0
        have a1 := zw.c1
        have a2 := zw.c2
        have a3 := zw.c3
        have a4 := zw.c4
        have a5 := zw.c5
        clear zw
        refine bodyPost_ret (by simp [results, Try.results113, go_sem, *]; try rfl) rfl ⟨?_, by rw [← HN.out]; exact hZ⟩
        rw [HR.out] <;> rfl
end Go.Proofs.Ytmhicllhjiglkaa
