import Derived.Test.YtpegiljajlljkaaSh
namespace Go.Proofs.Ytpegiljajlljkaa
open Go.RowKit
/-- two numbers more, in a region that draws -/
theorem wp_app2 {o : Oper} {a : Act} {K : Act → World → Prop} {Q : Exit → Act → World → Prop} (w0 w1 : World) (s x : Operand)
    (ho : o.op = .call { callee := .builtin .append, args := #[s, x], argTypes := #[59, 59] })
    (v : Value) (ps : List Int) (n m : Int) (hS : St w0 w1 v ps) (hs : a.eval s = v) (hx : a.eval x = .slice (some ⟨w1.heap.size, 0, none⟩) 2 2) (hl : ps.length ≤ 1000)
    (h : ∀ a' c' w', St w0 w' (.slice a' (ps.length + 2) c') (ps ++ [n, m]) → K (a.put o.dst (.slice a' (ps.length + 2) c')) w') : o.wp Try.prog a (w1.alloc (.cells #[.int .i64 n, .int .i64 m] 2)) K Q := by
  obtain ⟨i0, hi, hz0, hz1, hz2⟩ := info_parts info2p
  refine wp_append_own _ s x 59 ho w0.heap.size 2 i0 (.int .i64 0) 1 8 Try.underlying59 hi hz0 hz1 hz2 rfl (by decide) v ps.length (I64 ps) hs (hS.own.alloc _) ⟨w1.heap.size, 0, none⟩ 2 2 [.int .i64 n, .int .i64 m] hx rfl ?_ ?_ ?_ ?_ ?_ ?_
  · intro j u hj
    match j, hj with
    | 0, hj => simp at hj; subst hj; simp [Addr.add]
    | 1, hj => simp at hj; subst hj; simp [Addr.add]
  · intro u hu
    simp at hu
    rcases hu with rfl | rfl <;> rfl
  · unfold maxLen; omega
  · omega
  · have := hS.bel.size; simp; omega
  · intro v' w' hown hgrow _
    have hB := hS.bel.size
    have hT : St w0 w' v' (ps ++ [n, m]) := by
      refine ⟨?_, ((hS.bel.alloc (by omega) _)).grown hgrow (by simp; omega) (fun k hk => ((hS.own.lt k hk).1))⟩
      have e : I64 (ps ++ [n, m]) = I64 ps ++ [.int .i64 n, .int .i64 m] := by simp [I64]
      rw [e]
      simpa using hown
    obtain ⟨a', c', rfl⟩ := hT.slice
    simp only [List.length_append, List.length_cons, List.length_nil, Nat.zero_add] at hT ⊢
    exact h a' c' w' hT
/-- two numbers more -/
theorem wpList_app2 {ops : Array Oper} {rest : List Oper} {o : Oper} {a : Act} {Q : Exit → Act → World → Prop} (w0 w1 : World) (hgd : o.guard = none) (s x : Operand)
    (ho : o.op = .call { callee := .builtin .append, args := #[s, x], argTypes := #[59, 59] })
    (v : Value) (ps : List Int) (n m : Int) (hS : St w0 w1 v ps) (hs : a.eval s = v) (hx : a.eval x = .slice (some ⟨w1.heap.size, 0, none⟩) 2 2) (hl : ps.length ≤ 1000)
    (h : ∀ a' c' w', St w0 w' (.slice a' (ps.length + 2) c') (ps ++ [n, m]) → wpList Try.prog ops Q rest (a.put o.dst (.slice a' (ps.length + 2) c')) w') : wpList Try.prog ops Q (o :: rest) a (w1.alloc (.cells #[.int .i64 n, .int .i64 m] 2)) :=
  wpList_plain hgd fun _ hK => wp_app2 w0 w1 s x ho v ps n m hS hs hx hl fun a' c' w' h1 => hK _ _ (h a' c' w' h1)
end Go.Proofs.Ytpegiljajlljkaa
