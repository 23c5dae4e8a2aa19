import Derived.Test.YtpegiljajlljkaaSg
import Derived.Deep.QuietTactic
import Derived.Deep.DeepCutAuto
namespace Go.Proofs.Ytpegiljajlljkaa
open Go.RowKit
theorem hide {p : Prop} (h : p) : Hid p := h
theorem info2p : (Try.prog.info? 2).map (fun i => (i.zero, i.size, i.bytes)) = some (some (.int .i64 0), 1, 8) := by kernel_rfl
/-- a row of numbers of the call's own, and all else as it was -/
structure St (w0 wr : World) (v : Value) (ps : List Int) : Prop where
  own : wr.ownsRow w0.heap.size 2 1 v ps.length (I64 ps)
  bel : Below w0.heap.size w0 wr
theorem St.slice {w0 wr : World} {v : Value} {ps : List Int} (h : St w0 wr v ps) : ∃ a c, v = .slice a ps.length c := by
  rcases h.own.2 with ⟨rfl, h2⟩ | ⟨g, cap, cur, rfl, _⟩
  · exact ⟨none, 0, by rw [h2]⟩
  · exact ⟨_, _, rfl⟩
theorem St.start (w0 : World) : St w0 w0 (.slice none 0 0) [] := ⟨World.ownsRow_nil _ _ _ _, Below.refl _ _⟩
theorem St.drewN {w0 wr : World} {v : Value} {ps : List Int} (h : St w0 wr v ps) (j : Nat) : St w0 (wr.drewN j) v ps := ⟨h.own, below_drewN h.bel j⟩
theorem St.row {w0 wr : World} {a : Option Addr} {n : Int} {ps : List Int} {c : Nat} (h : St w0 wr (.slice a (ps.length + 1) c) (n :: ps)) : ∃ g, a = some ⟨g, 0, none⟩ ∧ RowN wr g (n :: ps) := by
  rcases h.own.2 with ⟨h1, h2⟩ | ⟨g, cap, cur, h1, h3, h4, h5, h6, h7, h8⟩
  · simp at h2
  · simp only [Value.slice.injEq] at h1
    obtain ⟨rfl, -, rfl⟩ := h1
    refine ⟨g, rfl, fun j m hj => ?_⟩
    have hc := h.own.cells (g := g) rfl j (.int .i64 m) (by unfold I64; rw [List.getElem?_map, hj]; rfl)
    have e : (⟨g, 0, none⟩ : Addr).add j = ⟨g, j, none⟩ := by
      unfold Addr.add
      split
      · rename_i hj0; rw [hj0]
      · simp
    rw [e] at hc
    exact hc
/-- one number more -/
theorem wpList_app1 {ops : Array Oper} {rest : List Oper} {o : Oper} {a : Act} {Q : Exit → Act → World → Prop} (w0 w1 : World) (hgd : o.guard = none) (s x : Operand)
    (ho : o.op = .call { callee := .builtin .append, args := #[s, x], argTypes := #[59, 59] })
    (v : Value) (ps : List Int) (n : Int) (hS : St w0 w1 v ps) (hs : a.eval s = v) (hx : a.eval x = .slice (some ⟨w1.heap.size, 0, none⟩) 1 1) (hl : ps.length ≤ 1000)
    (h : ∀ a' c' w', St w0 w' (.slice a' (ps.length + 1) c') (ps ++ [n]) → wpList Try.prog ops Q rest (a.put o.dst (.slice a' (ps.length + 1) c')) w') : wpList Try.prog ops Q (o :: rest) a (w1.alloc (.cells #[.int .i64 n] 2)) := by
  obtain ⟨i0, hi, hz0, hz1, hz2⟩ := info_parts info2p
  refine wpList_append_own _ hgd s x 59 ho w0.heap.size 2 i0 (.int .i64 0) 1 8 Try.underlying59 hi hz0 hz1 hz2 rfl (by decide) v ps.length (I64 ps) hs (hS.own.alloc _) ⟨w1.heap.size, 0, none⟩ 1 1 [.int .i64 n] hx rfl ?_ ?_ ?_ ?_ ?_ ?_
  · intro j u hj
    cases j with
    | zero => simp at hj; subst hj; simp [Addr.add]
    | succ j => simp at hj
  · intro u hu; simp at hu; subst hu; rfl
  · unfold maxLen; omega
  · omega
  · have := hS.bel.size; simp; omega
  · intro v' w' hown hgrow _
    have hB := hS.bel.size
    have hT : St w0 w' v' (ps ++ [n]) := by
      refine ⟨?_, ((hS.bel.alloc (by omega) _)).grown hgrow (by simp; omega) (fun k hk => ((hS.own.lt k hk).1))⟩
      have e : I64 (ps ++ [n]) = I64 ps ++ [.int .i64 n] := by simp [I64]
      rw [e]
      simpa using hown
    obtain ⟨a', c', rfl⟩ := hT.slice
    simp only [List.length_append, List.length_cons, List.length_nil, Nat.zero_add] at hT ⊢
    exact h a' c' w' hT
theorem idx0 (x y : Int) (w : World) : Sem.run Try.prog (Instr.index 51 (.agg #[.int .i64 x, .int .i64 y]) (.int .i64 0)) w = .ok (.int .i64 x) w := by
  rfl
theorem idx1 (x y : Int) (w : World) : Sem.run Try.prog (Instr.index 51 (.agg #[.int .i64 x, .int .i64 y]) (.int .i64 1)) w = .ok (.int .i64 y) w := by
  rfl
end Go.Proofs.Ytpegiljajlljkaa
