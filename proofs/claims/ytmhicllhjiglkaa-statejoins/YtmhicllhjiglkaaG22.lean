import Derived.Test.YtmhicllhjiglkaaG21
import Derived.Deep.RegionHeld3
namespace Go.Proofs.Ytmhicllhjiglkaa
open Go.RowKit
/-- the operations of 'x, y, z := ..' in StateJoins -/
abbrev sjOps : Array Oper := #[{ dst := some 11, op := Op.load 25 (Operand.tmp 3), type := 25, pos := "law.go:143", after := #[], guard := none }, { dst := some 12, op := Op.call { callee := Callee.value (Operand.func 10), args := #[Operand.tmp 11], argTypes := #[25] }, type := 25, pos := "law.go:143", after := #[{ on := 0, ground := Ground.data }], guard := none }, { dst := some 13, op := Op.call { callee := Callee.value (Operand.func 11), args := #[Operand.tmp 12], argTypes := #[25] }, type := 29, pos := "law.go:143", after := #[{ on := 1, ground := Ground.data }, { on := 1, ground := Ground.chain }], guard := none }, { dst := some 14, op := Op.load 25 (Operand.tmp 4), type := 25, pos := "law.go:143", after := #[], guard := none }, { dst := some 15, op := Op.call { callee := Callee.value (Operand.func 10), args := #[Operand.tmp 14], argTypes := #[25] }, type := 25, pos := "law.go:143", after := #[{ on := 3, ground := Ground.data }, { on := 2, ground := Ground.chain }], guard := none }, { dst := some 16, op := Op.call { callee := Callee.value (Operand.func 11), args := #[Operand.tmp 15], argTypes := #[25] }, type := 29, pos := "law.go:143", after := #[{ on := 4, ground := Ground.data }, { on := 4, ground := Ground.chain }], guard := none }, { dst := some 17, op := Op.load 25 (Operand.tmp 5), type := 25, pos := "law.go:143", after := #[], guard := none }, { dst := some 18, op := Op.call { callee := Callee.value (Operand.func 10), args := #[Operand.tmp 17], argTypes := #[25] }, type := 25, pos := "law.go:143", after := #[{ on := 6, ground := Ground.data }, { on := 5, ground := Ground.chain }], guard := none }, { dst := some 19, op := Op.call { callee := Callee.value (Operand.func 11), args := #[Operand.tmp 18], argTypes := #[25] }, type := 29, pos := "law.go:143", after := #[{ on := 7, ground := Ground.data }, { on := 7, ground := Ground.chain }], guard := none }, { dst := some 7, op := Op.alloc 29, type := 0, pos := "law.go:143", after := #[], guard := none }, { dst := some 8, op := Op.alloc 29, type := 0, pos := "law.go:143", after := #[], guard := none }, { dst := some 9, op := Op.alloc 29, type := 0, pos := "law.go:143", after := #[], guard := none }, { dst := none, op := Op.store 29 (Operand.tmp 7) (Operand.tmp 13), type := 0, pos := "law.go:143", after := #[{ on := 9, ground := Ground.data }, { on := 2, ground := Ground.data }, { on := 8, ground := Ground.chain }, { on := 0, ground := Ground.phase }, { on := 1, ground := Ground.phase }, { on := 2, ground := Ground.phase }, { on := 3, ground := Ground.textOnly Departure.lateStores }, { on := 4, ground := Ground.textOnly Departure.lateStoresUnsure }, { on := 5, ground := Ground.textOnly Departure.lateStoresUnsure }, { on := 6, ground := Ground.textOnly Departure.lateStores }, { on := 7, ground := Ground.textOnly Departure.lateStoresUnsure }, { on := 8, ground := Ground.textOnly Departure.lateStoresUnsure }, { on := 9, ground := Ground.phase }, { on := 10, ground := Ground.phase }, { on := 11, ground := Ground.phase }], guard := none }, { dst := none, op := Op.store 29 (Operand.tmp 8) (Operand.tmp 16), type := 0, pos := "law.go:143", after := #[{ on := 10, ground := Ground.data }, { on := 5, ground := Ground.data }, { on := 12, ground := Ground.chain }, { on := 0, ground := Ground.phase }, { on := 1, ground := Ground.phase }, { on := 2, ground := Ground.phase }, { on := 3, ground := Ground.phase }, { on := 4, ground := Ground.phase }, { on := 5, ground := Ground.phase }, { on := 6, ground := Ground.textOnly Departure.lateStores }, { on := 7, ground := Ground.textOnly Departure.lateStoresUnsure }, { on := 8, ground := Ground.textOnly Departure.lateStoresUnsure }, { on := 9, ground := Ground.phase }, { on := 10, ground := Ground.phase }, { on := 11, ground := Ground.phase }, { on := 12, ground := Ground.phase }], guard := none }, { dst := none, op := Op.store 29 (Operand.tmp 9) (Operand.tmp 19), type := 0, pos := "law.go:143", after := #[{ on := 11, ground := Ground.data }, { on := 8, ground := Ground.data }, { on := 13, ground := Ground.chain }, { on := 0, ground := Ground.phase }, { on := 1, ground := Ground.phase }, { on := 2, ground := Ground.phase }, { on := 3, ground := Ground.phase }, { on := 4, ground := Ground.phase }, { on := 5, ground := Ground.phase }, { on := 6, ground := Ground.phase }, { on := 7, ground := Ground.phase }, { on := 8, ground := Ground.phase }, { on := 9, ground := Ground.phase }, { on := 10, ground := Ground.phase }, { on := 11, ground := Ground.phase }, { on := 12, ground := Ground.phase }, { on := 13, ground := Ground.phase }], guard := none }]
abbrev sjAct (N : Nat) (r0 : Bool) (va0 sa0 : Value) (r1 : Bool) (va1 sa1 : Value) (r2 : Bool) (va2 sa2 : Value) (s7 s8 s9 s11 s12 s13 s14 s15 s16 s17 s18 s19 : Value) : Act := { tmps := #[.agg #[.bool r0, va0, sa0], .agg #[.bool r1, va1, sa1], .agg #[.bool r2, va2, sa2], .pointer (some ⟨N, 0, none⟩), .pointer (some ⟨N + 1, 0, none⟩), .pointer (some ⟨N + 1 + 1, 0, none⟩), .bool false, s7, s8, s9, undef, s11, s12, s13, s14, s15, s16, s17, s18, s19, undef, undef, undef, undef, undef, undef, undef, undef, undef, undef, undef, undef, undef, undef, undef, undef, undef, undef, undef, undef, undef, undef, undef, undef, undef, undef, undef, undef, undef, undef, undef, undef, undef, undef, undef, undef, undef, undef, undef, undef, undef, undef, undef, undef, undef, undef, undef, undef, undef, undef, undef, undef, undef, undef, undef, undef, undef, undef, undef, undef, undef, undef, undef, undef, undef, undef, undef], defers := [] }
def sjS (N : Nat) (r0 : Bool) (va0 sa0 : Value) (r1 : Bool) (va1 sa1 : Value) (r2 : Bool) (va2 sa2 : Value) (w0 w : World) : Prop := Bs w N r0 va0 sa0 ∧ Bs w (N + 1) r1 va1 sa1 ∧ Bs w (N + 1 + 1) r2 va2 sa2 ∧ Below N w0 w
theorem wpAnyH_listed {P : Program} {md : Region.Mode} {ops : Array Oper} {Q : Exit → Act → World → Prop} {S : World → Prop} {fuel : Nat} {l l' : Array Bool} {a : Act} {w : World} (h : l = l') (hw : wpAnyH P md ops Q S fuel l' a w) : wpAnyH P md ops Q S fuel l a w := h ▸ hw
theorem sj_keep {N : Nat} {r0 r1 r2 : Bool} {va0 sa0 va1 sa1 va2 sa2 : Value} {w0 a b : World} (h : sjS N r0 va0 sa0 r1 va1 sa1 r2 va2 sa2 w0 a) (hb : Below a.heap.size a b) : sjS N r0 va0 sa0 r1 va1 sa1 r2 va2 sa2 w0 b :=
  ⟨h.1.keep hb, h.2.1.keep hb, h.2.2.1.keep hb, h.2.2.2.trans (hb.mono (Nat.le_of_lt h.1.lt))⟩
theorem sj_store {N : Nat} {r0 r1 r2 : Bool} {va0 sa0 va1 sa1 va2 sa2 : Value} {w0 a : World} {q : Nat} {r : Bool} {va sa : Value} (hq : N + 1 + 1 < q) (h : sjS N r0 va0 sa0 r1 va1 sa1 r2 va2 sa2 w0 a) : sjS N r0 va0 sa0 r1 va1 sa1 r2 va2 sa2 w0 (st3 a q r va sa) :=
  ⟨h.1.far3 (by omega) _ _ _, h.2.1.far3 (by omega) _ _ _, h.2.2.1.far3 (by omega) _ _ _, st3_below h.2.2.2 q (by omega) _ _ _⟩
theorem Don.agg {w : World} {L : List Nat} {v : Value} {x : VS} (h : Don w L v x) : ∃ r a n c b m d, v = .agg #[.bool r, .slice a n c, .slice b m d] := by
  obtain ⟨_, a, c, b, d, rfl, -⟩ := h
  exact ⟨_, _, _, _, _, _, _, rfl⟩
set_option maxRecDepth 100000 in
set_option maxHeartbeats 8000000 in
theorem sj6_789 (Q0 : Exit → Act → World → Prop) (_hP : ∀ c (a : Act) d v w, Q0 (.panic c) (a.put d v) w → Q0 (.panic c) a w) (N : Nat) (r0 : Bool) (va0 sa0 : Value) (r1 : Bool) (va1 sa1 : Value) (r2 : Bool) (va2 sa2 : Value) (w0 : World) (_cA : ∀ w, Below N w0 w → Calls Try.prog 10 #[.agg #[.bool r0, va0, sa0]] w fun e w' => ∃ v, e = .returned v ∧ Below w.heap.size w w' ∧ Pre w' v) (_cB : ∀ w, Below N w0 w → Calls Try.prog 10 #[.agg #[.bool r1, va1, sa1]] w fun e w' => ∃ v, e = .returned v ∧ Below w.heap.size w w' ∧ Pre w' v) (_cC : ∀ w, Below N w0 w → Calls Try.prog 10 #[.agg #[.bool r2, va2, sa2]] w fun e w' => ∃ v, e = .returned v ∧ Below w.heap.size w w' ∧ Pre w' v) (hQ : ∀ (v : World) (k7 k8 k9 : Nat) (e12 e15 e18 : Value) (q0 : Bool) (v0 s0 : Value) (q1 : Bool) (v1 s1 : Value) (q2 : Bool) (v2 s2 : Value) (x0 x1 x2 : VS), Bs v k7 q0 v0 s0 → Bs v k8 q1 v1 s1 → Bs v k9 q2 v2 s2 → Don v [k7, k8, k9] (.agg #[.bool q0, v0, s0]) x0 → Don v [k7, k8, k9] (.agg #[.bool q1, v1, s1]) x1 → Don v [k7, k8, k9] (.agg #[.bool q2, v2, s2]) x2 → Below N w0 v → N < v.heap.size → N + 1 + 1 < k7 → N + 1 + 1 < k8 → N + 1 + 1 < k9 → Q0 .normal (sjAct N r0 va0 sa0 r1 va1 sa1 r2 va2 sa2 (.pointer (some ⟨k7, 0, none⟩)) (.pointer (some ⟨k8, 0, none⟩)) (.pointer (some ⟨k9, 0, none⟩)) (.agg #[.bool r0, va0, sa0]) (e12) (.agg #[.bool q0, v0, s0]) (.agg #[.bool r1, va1, sa1]) (e15) (.agg #[.bool q1, v1, s1]) (.agg #[.bool r2, va2, sa2]) (e18) (.agg #[.bool q2, v2, s2])) v) (v : World) (k7 k8 k9 : Nat) (K7 : Bs v k7 false (.slice none 0 0) (.slice none 0 0)) (F7 : Fs v k7) (n7 : N + 1 + 1 < k7) (K8 : Bs v k8 false (.slice none 0 0) (.slice none 0 0)) (F8 : Fs v k8) (n8 : N + 1 + 1 < k8) (K9 : Bs v k9 false (.slice none 0 0) (.slice none 0 0)) (F9 : Fs v k9) (n9 : N + 1 + 1 < k9) (e78 : k7 ≠ k8) (e79 : k7 ≠ k9) (e89 : k8 ≠ k9) (e12 : Value) (e13 : Value) (x0 : VS) (D0 : Don v [k7, k8, k9] e13 x0) (e15 : Value) (e16 : Value) (x1 : VS) (D1 : Don v [k7, k8, k9] e16 x1) (e18 : Value) (e19 : Value) (x2 : VS) (D2 : Don v [k7, k8, k9] e19 x2) (hS : sjS N r0 va0 sa0 r1 va1 sa1 r2 va2 sa2 w0 v) : wpAnyH Try.prog .any sjOps Q0 (fun w => sjS N r0 va0 sa0 r1 va1 sa1 r2 va2 sa2 w0 w) 3 #[true, true, true, true, true, true, true, true, true, true, true, true, false, false, false] (sjAct N r0 va0 sa0 r1 va1 sa1 r2 va2 sa2 (.pointer (some ⟨k7, 0, none⟩)) (.pointer (some ⟨k8, 0, none⟩)) (.pointer (some ⟨k9, 0, none⟩)) (.agg #[.bool r0, va0, sa0]) (e12) (e13) (.agg #[.bool r1, va1, sa1]) (e15) (e16) (.agg #[.bool r2, va2, sa2]) (e18) (e19)) v := by
  obtain ⟨q0, ya0, yn0, yc0, yb0, ym0, yd0, rfl⟩ := D0.agg
  obtain ⟨q1, ya1, yn1, yc1, yb1, ym1, yd1, rfl⟩ := D1.agg
  obtain ⟨q2, ya2, yn2, yc2, yb2, ym2, yd2, rfl⟩ := D2.agg
  refine wpAnyH_ready (rs := [12]) (by kernel_rfl) (by simp) ?_
  refine AllReadyH.cons (o := ({ dst := none, op := Op.store 29 (Operand.tmp 7) (Operand.tmp 13), type := 0, pos := "law.go:143", after := #[{ on := 9, ground := Ground.data }, { on := 2, ground := Ground.data }, { on := 8, ground := Ground.chain }, { on := 0, ground := Ground.phase }, { on := 1, ground := Ground.phase }, { on := 2, ground := Ground.phase }, { on := 3, ground := Ground.textOnly Departure.lateStores }, { on := 4, ground := Ground.textOnly Departure.lateStoresUnsure }, { on := 5, ground := Ground.textOnly Departure.lateStoresUnsure }, { on := 6, ground := Ground.textOnly Departure.lateStores }, { on := 7, ground := Ground.textOnly Departure.lateStoresUnsure }, { on := 8, ground := Ground.textOnly Departure.lateStoresUnsure }, { on := 9, ground := Ground.phase }, { on := 10, ground := Ground.phase }, { on := 11, ground := Ground.phase }], guard := none } : Oper)) rfl (fun K hK => ?_) AllReadyH.nil
  dsimp only [sjAct]
  have c0 := K7.c0
  have f0 := F7.f0
  have c1 := K7.c1
  have f1 := F7.f1
  have c2 := K7.c2
  have f2 := F7.f2
  go_simp
  have J70 := K7.put3 q0 (.slice ya0 yn0 yc0) (.slice yb0 ym0 yd0)
  have G70 := F7.put3 (p := k7) q0 (.slice ya0 yn0 yc0) (.slice yb0 ym0 yd0)
  have J80 := K8.far3 (p := k7) (by omega) q0 (.slice ya0 yn0 yc0) (.slice yb0 ym0 yd0)
  have G80 := F8.put3 (p := k7) q0 (.slice ya0 yn0 yc0) (.slice yb0 ym0 yd0)
  have J90 := K9.far3 (p := k7) (by omega) q0 (.slice ya0 yn0 yc0) (.slice yb0 ym0 yd0)
  have G90 := F9.put3 (p := k7) q0 (.slice ya0 yn0 yc0) (.slice yb0 ym0 yd0)
  have U00 := D0.put (q := k7) (by simp) q0 (.slice ya0 yn0 yc0) (.slice yb0 ym0 yd0)
  have U10 := D1.put (q := k7) (by simp) q0 (.slice ya0 yn0 yc0) (.slice yb0 ym0 yd0)
  have U20 := D2.put (q := k7) (by simp) q0 (.slice ya0 yn0 yc0) (.slice yb0 ym0 yd0)
  refine hK.out _ _ (sj_store (r := q0) (va := (.slice ya0 yn0 yc0)) (sa := (.slice yb0 ym0 yd0)) n7 hS) (fun hS0 => ?_)
  clear hK K c0 f0 c1 f1 c2 f2
  obtain ⟨u0, hu0⟩ : ∃ z9, z9 = ((v.setCell ⟨k7, 0, none⟩ (.bool q0)).setCell ⟨k7, 1, none⟩ (.slice ya0 yn0 yc0)).setCell ⟨k7, 2, none⟩ (.slice yb0 ym0 yd0) := ⟨_, rfl⟩
  unfold st3 at hS0 J70 G70 J80 G80 J90 G90 U00 U10 U20
  rw [← hu0] at hS0 J70 G70 J80 G80 J90 G90 U00 U10 U20 ⊢
  clear hu0
  refine wpAnyH_ready (rs := [13]) (by kernel_rfl) (by simp) ?_
  refine AllReadyH.cons (o := ({ dst := none, op := Op.store 29 (Operand.tmp 8) (Operand.tmp 16), type := 0, pos := "law.go:143", after := #[{ on := 10, ground := Ground.data }, { on := 5, ground := Ground.data }, { on := 12, ground := Ground.chain }, { on := 0, ground := Ground.phase }, { on := 1, ground := Ground.phase }, { on := 2, ground := Ground.phase }, { on := 3, ground := Ground.phase }, { on := 4, ground := Ground.phase }, { on := 5, ground := Ground.phase }, { on := 6, ground := Ground.textOnly Departure.lateStores }, { on := 7, ground := Ground.textOnly Departure.lateStoresUnsure }, { on := 8, ground := Ground.textOnly Departure.lateStoresUnsure }, { on := 9, ground := Ground.phase }, { on := 10, ground := Ground.phase }, { on := 11, ground := Ground.phase }, { on := 12, ground := Ground.phase }], guard := none } : Oper)) rfl (fun K hK => ?_) AllReadyH.nil
  dsimp only [sjAct]
  have c0 := J80.c0
  have f0 := G80.f0
  have c1 := J80.c1
  have f1 := G80.f1
  have c2 := J80.c2
  have f2 := G80.f2
  go_simp
  have J71 := J70.far3 (p := k8) (by omega) q1 (.slice ya1 yn1 yc1) (.slice yb1 ym1 yd1)
  have G71 := G70.put3 (p := k8) q1 (.slice ya1 yn1 yc1) (.slice yb1 ym1 yd1)
  have J81 := J80.put3 q1 (.slice ya1 yn1 yc1) (.slice yb1 ym1 yd1)
  have G81 := G80.put3 (p := k8) q1 (.slice ya1 yn1 yc1) (.slice yb1 ym1 yd1)
  have J91 := J90.far3 (p := k8) (by omega) q1 (.slice ya1 yn1 yc1) (.slice yb1 ym1 yd1)
  have G91 := G90.put3 (p := k8) q1 (.slice ya1 yn1 yc1) (.slice yb1 ym1 yd1)
  have U01 := U00.put (q := k8) (by simp) q1 (.slice ya1 yn1 yc1) (.slice yb1 ym1 yd1)
  have U11 := U10.put (q := k8) (by simp) q1 (.slice ya1 yn1 yc1) (.slice yb1 ym1 yd1)
  have U21 := U20.put (q := k8) (by simp) q1 (.slice ya1 yn1 yc1) (.slice yb1 ym1 yd1)
  refine hK.out _ _ (sj_store (r := q1) (va := (.slice ya1 yn1 yc1)) (sa := (.slice yb1 ym1 yd1)) n8 hS0) (fun hS1 => ?_)
  clear hK K c0 f0 c1 f1 c2 f2
  obtain ⟨u1, hu1⟩ : ∃ z9, z9 = ((u0.setCell ⟨k8, 0, none⟩ (.bool q1)).setCell ⟨k8, 1, none⟩ (.slice ya1 yn1 yc1)).setCell ⟨k8, 2, none⟩ (.slice yb1 ym1 yd1) := ⟨_, rfl⟩
  unfold st3 at hS1 J71 G71 J81 G81 J91 G91 U01 U11 U21
  rw [← hu1] at hS1 J71 G71 J81 G81 J91 G91 U01 U11 U21 ⊢
  clear hu1
  refine wpAnyH_ready (rs := [14]) (by kernel_rfl) (by simp) ?_
  refine AllReadyH.cons (o := ({ dst := none, op := Op.store 29 (Operand.tmp 9) (Operand.tmp 19), type := 0, pos := "law.go:143", after := #[{ on := 11, ground := Ground.data }, { on := 8, ground := Ground.data }, { on := 13, ground := Ground.chain }, { on := 0, ground := Ground.phase }, { on := 1, ground := Ground.phase }, { on := 2, ground := Ground.phase }, { on := 3, ground := Ground.phase }, { on := 4, ground := Ground.phase }, { on := 5, ground := Ground.phase }, { on := 6, ground := Ground.phase }, { on := 7, ground := Ground.phase }, { on := 8, ground := Ground.phase }, { on := 9, ground := Ground.phase }, { on := 10, ground := Ground.phase }, { on := 11, ground := Ground.phase }, { on := 12, ground := Ground.phase }, { on := 13, ground := Ground.phase }], guard := none } : Oper)) rfl (fun K hK => ?_) AllReadyH.nil
  dsimp only [sjAct]
  have c0 := J91.c0
  have f0 := G91.f0
  have c1 := J91.c1
  have f1 := G91.f1
  have c2 := J91.c2
  have f2 := G91.f2
  go_simp
  have J72 := J71.far3 (p := k9) (by omega) q2 (.slice ya2 yn2 yc2) (.slice yb2 ym2 yd2)
  have G72 := G71.put3 (p := k9) q2 (.slice ya2 yn2 yc2) (.slice yb2 ym2 yd2)
  have J82 := J81.far3 (p := k9) (by omega) q2 (.slice ya2 yn2 yc2) (.slice yb2 ym2 yd2)
  have G82 := G81.put3 (p := k9) q2 (.slice ya2 yn2 yc2) (.slice yb2 ym2 yd2)
  have J92 := J91.put3 q2 (.slice ya2 yn2 yc2) (.slice yb2 ym2 yd2)
  have G92 := G91.put3 (p := k9) q2 (.slice ya2 yn2 yc2) (.slice yb2 ym2 yd2)
  have U02 := U01.put (q := k9) (by simp) q2 (.slice ya2 yn2 yc2) (.slice yb2 ym2 yd2)
  have U12 := U11.put (q := k9) (by simp) q2 (.slice ya2 yn2 yc2) (.slice yb2 ym2 yd2)
  have U22 := U21.put (q := k9) (by simp) q2 (.slice ya2 yn2 yc2) (.slice yb2 ym2 yd2)
  refine hK.out _ _ (sj_store (r := q2) (va := (.slice ya2 yn2 yc2)) (sa := (.slice yb2 ym2 yd2)) n9 hS1) (fun hS2 => ?_)
  clear hK K c0 f0 c1 f1 c2 f2
  obtain ⟨u2, hu2⟩ : ∃ z9, z9 = ((u1.setCell ⟨k9, 0, none⟩ (.bool q2)).setCell ⟨k9, 1, none⟩ (.slice ya2 yn2 yc2)).setCell ⟨k9, 2, none⟩ (.slice yb2 ym2 yd2) := ⟨_, rfl⟩
  unfold st3 at hS2 J72 G72 J82 G82 J92 G92 U02 U12 U22
  rw [← hu2] at hS2 J72 G72 J82 G82 J92 G92 U02 U12 U22 ⊢
  clear hu2
  refine wpAnyH_done (by kernel_rfl) ?_ _
  exact hQ _ _ _ _ _ _ _ _ _ _ _ _ _ _ _ _ _ _ _ J72 J82 J92 U02 U12 U22 hS2.2.2.2 hS2.1.lt n7 n8 n9
set_option maxRecDepth 100000 in
set_option maxHeartbeats 8000000 in
theorem sj6_78 (Q0 : Exit → Act → World → Prop) (hP : ∀ c (a : Act) d v w, Q0 (.panic c) (a.put d v) w → Q0 (.panic c) a w) (N : Nat) (r0 : Bool) (va0 sa0 : Value) (r1 : Bool) (va1 sa1 : Value) (r2 : Bool) (va2 sa2 : Value) (w0 : World) (cA : ∀ w, Below N w0 w → Calls Try.prog 10 #[.agg #[.bool r0, va0, sa0]] w fun e w' => ∃ v, e = .returned v ∧ Below w.heap.size w w' ∧ Pre w' v) (cB : ∀ w, Below N w0 w → Calls Try.prog 10 #[.agg #[.bool r1, va1, sa1]] w fun e w' => ∃ v, e = .returned v ∧ Below w.heap.size w w' ∧ Pre w' v) (cC : ∀ w, Below N w0 w → Calls Try.prog 10 #[.agg #[.bool r2, va2, sa2]] w fun e w' => ∃ v, e = .returned v ∧ Below w.heap.size w w' ∧ Pre w' v) (hQ : ∀ (v : World) (k7 k8 k9 : Nat) (e12 e15 e18 : Value) (q0 : Bool) (v0 s0 : Value) (q1 : Bool) (v1 s1 : Value) (q2 : Bool) (v2 s2 : Value) (x0 x1 x2 : VS), Bs v k7 q0 v0 s0 → Bs v k8 q1 v1 s1 → Bs v k9 q2 v2 s2 → Don v [k7, k8, k9] (.agg #[.bool q0, v0, s0]) x0 → Don v [k7, k8, k9] (.agg #[.bool q1, v1, s1]) x1 → Don v [k7, k8, k9] (.agg #[.bool q2, v2, s2]) x2 → Below N w0 v → N < v.heap.size → N + 1 + 1 < k7 → N + 1 + 1 < k8 → N + 1 + 1 < k9 → Q0 .normal (sjAct N r0 va0 sa0 r1 va1 sa1 r2 va2 sa2 (.pointer (some ⟨k7, 0, none⟩)) (.pointer (some ⟨k8, 0, none⟩)) (.pointer (some ⟨k9, 0, none⟩)) (.agg #[.bool r0, va0, sa0]) (e12) (.agg #[.bool q0, v0, s0]) (.agg #[.bool r1, va1, sa1]) (e15) (.agg #[.bool q1, v1, s1]) (.agg #[.bool r2, va2, sa2]) (e18) (.agg #[.bool q2, v2, s2])) v) (v : World) (k7 k8 : Nat) (K7 : Bs v k7 false (.slice none 0 0) (.slice none 0 0)) (F7 : Fs v k7) (n7 : N + 1 + 1 < k7) (K8 : Bs v k8 false (.slice none 0 0) (.slice none 0 0)) (F8 : Fs v k8) (n8 : N + 1 + 1 < k8) (e78 : k7 ≠ k8) (e12 : Value) (e13 : Value) (x0 : VS) (D0 : Don v [k7, k8] e13 x0) (e15 : Value) (e16 : Value) (x1 : VS) (D1 : Don v [k7, k8] e16 x1) (e18 : Value) (e19 : Value) (x2 : VS) (D2 : Don v [k7, k8] e19 x2) (hS : sjS N r0 va0 sa0 r1 va1 sa1 r2 va2 sa2 w0 v) : wpAnyH Try.prog .any sjOps Q0 (fun w => sjS N r0 va0 sa0 r1 va1 sa1 r2 va2 sa2 w0 w) 4 #[true, true, true, true, true, true, true, true, true, true, true, false, false, false, false] (sjAct N r0 va0 sa0 r1 va1 sa1 r2 va2 sa2 (.pointer (some ⟨k7, 0, none⟩)) (.pointer (some ⟨k8, 0, none⟩)) undef (.agg #[.bool r0, va0, sa0]) (e12) (e13) (.agg #[.bool r1, va1, sa1]) (e15) (e16) (.agg #[.bool r2, va2, sa2]) (e18) (e19)) v := by
  refine wpAnyH_ready (rs := [11]) (by kernel_rfl) (by simp) ?_
  refine AllReadyH.cons (o := ({ dst := some 9, op := Op.alloc 29, type := 0, pos := "law.go:143", after := #[], guard := none } : Oper)) rfl (fun K hK => ?_) AllReadyH.nil
  · dsimp only [sjAct]
    go_simp
    have hb : Below v.heap.size v (v.alloc (.cells #[.bool false, .slice none 0 0, .slice none 0 0] 29)) := (Below.refl _ _).alloc (Nat.le_refl _) _
    have M0 := D0.more (L' := [k7, k8, v.heap.size]) hb (by intro k hk; simp at hk ⊢; omega)
    have M1 := D1.more (L' := [k7, k8, v.heap.size]) hb (by intro k hk; simp at hk ⊢; omega)
    have M2 := D2.more (L' := [k7, k8, v.heap.size]) hb (by intro k hk; simp at hk ⊢; omega)
    refine hK.out _ _ (sj_keep hS hb) (fun hS2 => ?_)
    exact wpAnyH_listed (by kernel_rfl) (sj6_789 Q0 hP N r0 va0 sa0 r1 va1 sa1 r2 va2 sa2 w0 cA cB cC hQ _ k7 k8 v.heap.size (K7.keep hb) (F7.of (hb.block _ K7.lt)) n7 (K8.keep hb) (F8.of (hb.block _ K8.lt)) n8 (Bs.new v false (.slice none 0 0) (.slice none 0 0) 29) (Fs.new v false (.slice none 0 0) (.slice none 0 0) 29) hS.2.2.1.lt e78 (Nat.ne_of_lt K7.lt) (Nat.ne_of_lt K8.lt)  e12 e13 x0 M0 e15 e16 x1 M1 e18 e19 x2 M2 hS2)
set_option maxRecDepth 100000 in
set_option maxHeartbeats 8000000 in
theorem sj6_79 (Q0 : Exit → Act → World → Prop) (hP : ∀ c (a : Act) d v w, Q0 (.panic c) (a.put d v) w → Q0 (.panic c) a w) (N : Nat) (r0 : Bool) (va0 sa0 : Value) (r1 : Bool) (va1 sa1 : Value) (r2 : Bool) (va2 sa2 : Value) (w0 : World) (cA : ∀ w, Below N w0 w → Calls Try.prog 10 #[.agg #[.bool r0, va0, sa0]] w fun e w' => ∃ v, e = .returned v ∧ Below w.heap.size w w' ∧ Pre w' v) (cB : ∀ w, Below N w0 w → Calls Try.prog 10 #[.agg #[.bool r1, va1, sa1]] w fun e w' => ∃ v, e = .returned v ∧ Below w.heap.size w w' ∧ Pre w' v) (cC : ∀ w, Below N w0 w → Calls Try.prog 10 #[.agg #[.bool r2, va2, sa2]] w fun e w' => ∃ v, e = .returned v ∧ Below w.heap.size w w' ∧ Pre w' v) (hQ : ∀ (v : World) (k7 k8 k9 : Nat) (e12 e15 e18 : Value) (q0 : Bool) (v0 s0 : Value) (q1 : Bool) (v1 s1 : Value) (q2 : Bool) (v2 s2 : Value) (x0 x1 x2 : VS), Bs v k7 q0 v0 s0 → Bs v k8 q1 v1 s1 → Bs v k9 q2 v2 s2 → Don v [k7, k8, k9] (.agg #[.bool q0, v0, s0]) x0 → Don v [k7, k8, k9] (.agg #[.bool q1, v1, s1]) x1 → Don v [k7, k8, k9] (.agg #[.bool q2, v2, s2]) x2 → Below N w0 v → N < v.heap.size → N + 1 + 1 < k7 → N + 1 + 1 < k8 → N + 1 + 1 < k9 → Q0 .normal (sjAct N r0 va0 sa0 r1 va1 sa1 r2 va2 sa2 (.pointer (some ⟨k7, 0, none⟩)) (.pointer (some ⟨k8, 0, none⟩)) (.pointer (some ⟨k9, 0, none⟩)) (.agg #[.bool r0, va0, sa0]) (e12) (.agg #[.bool q0, v0, s0]) (.agg #[.bool r1, va1, sa1]) (e15) (.agg #[.bool q1, v1, s1]) (.agg #[.bool r2, va2, sa2]) (e18) (.agg #[.bool q2, v2, s2])) v) (v : World) (k7 k9 : Nat) (K7 : Bs v k7 false (.slice none 0 0) (.slice none 0 0)) (F7 : Fs v k7) (n7 : N + 1 + 1 < k7) (K9 : Bs v k9 false (.slice none 0 0) (.slice none 0 0)) (F9 : Fs v k9) (n9 : N + 1 + 1 < k9) (e79 : k7 ≠ k9) (e12 : Value) (e13 : Value) (x0 : VS) (D0 : Don v [k7, k9] e13 x0) (e15 : Value) (e16 : Value) (x1 : VS) (D1 : Don v [k7, k9] e16 x1) (e18 : Value) (e19 : Value) (x2 : VS) (D2 : Don v [k7, k9] e19 x2) (hS : sjS N r0 va0 sa0 r1 va1 sa1 r2 va2 sa2 w0 v) : wpAnyH Try.prog .any sjOps Q0 (fun w => sjS N r0 va0 sa0 r1 va1 sa1 r2 va2 sa2 w0 w) 4 #[true, true, true, true, true, true, true, true, true, true, false, true, false, false, false] (sjAct N r0 va0 sa0 r1 va1 sa1 r2 va2 sa2 (.pointer (some ⟨k7, 0, none⟩)) undef (.pointer (some ⟨k9, 0, none⟩)) (.agg #[.bool r0, va0, sa0]) (e12) (e13) (.agg #[.bool r1, va1, sa1]) (e15) (e16) (.agg #[.bool r2, va2, sa2]) (e18) (e19)) v := by
  refine wpAnyH_ready (rs := [10]) (by kernel_rfl) (by simp) ?_
  refine AllReadyH.cons (o := ({ dst := some 8, op := Op.alloc 29, type := 0, pos := "law.go:143", after := #[], guard := none } : Oper)) rfl (fun K hK => ?_) AllReadyH.nil
  · dsimp only [sjAct]
    go_simp
    have hb : Below v.heap.size v (v.alloc (.cells #[.bool false, .slice none 0 0, .slice none 0 0] 29)) := (Below.refl _ _).alloc (Nat.le_refl _) _
    have M0 := D0.more (L' := [k7, v.heap.size, k9]) hb (by intro k hk; simp at hk ⊢; omega)
    have M1 := D1.more (L' := [k7, v.heap.size, k9]) hb (by intro k hk; simp at hk ⊢; omega)
    have M2 := D2.more (L' := [k7, v.heap.size, k9]) hb (by intro k hk; simp at hk ⊢; omega)
    refine hK.out _ _ (sj_keep hS hb) (fun hS2 => ?_)
    exact wpAnyH_listed (by kernel_rfl) (sj6_789 Q0 hP N r0 va0 sa0 r1 va1 sa1 r2 va2 sa2 w0 cA cB cC hQ _ k7 v.heap.size k9 (K7.keep hb) (F7.of (hb.block _ K7.lt)) n7 (Bs.new v false (.slice none 0 0) (.slice none 0 0) 29) (Fs.new v false (.slice none 0 0) (.slice none 0 0) 29) hS.2.2.1.lt (K9.keep hb) (F9.of (hb.block _ K9.lt)) n9 (Nat.ne_of_lt K7.lt) e79 (Nat.ne_of_gt K9.lt)  e12 e13 x0 M0 e15 e16 x1 M1 e18 e19 x2 M2 hS2)
set_option maxRecDepth 100000 in
set_option maxHeartbeats 8000000 in
theorem sj6_89 (Q0 : Exit → Act → World → Prop) (hP : ∀ c (a : Act) d v w, Q0 (.panic c) (a.put d v) w → Q0 (.panic c) a w) (N : Nat) (r0 : Bool) (va0 sa0 : Value) (r1 : Bool) (va1 sa1 : Value) (r2 : Bool) (va2 sa2 : Value) (w0 : World) (cA : ∀ w, Below N w0 w → Calls Try.prog 10 #[.agg #[.bool r0, va0, sa0]] w fun e w' => ∃ v, e = .returned v ∧ Below w.heap.size w w' ∧ Pre w' v) (cB : ∀ w, Below N w0 w → Calls Try.prog 10 #[.agg #[.bool r1, va1, sa1]] w fun e w' => ∃ v, e = .returned v ∧ Below w.heap.size w w' ∧ Pre w' v) (cC : ∀ w, Below N w0 w → Calls Try.prog 10 #[.agg #[.bool r2, va2, sa2]] w fun e w' => ∃ v, e = .returned v ∧ Below w.heap.size w w' ∧ Pre w' v) (hQ : ∀ (v : World) (k7 k8 k9 : Nat) (e12 e15 e18 : Value) (q0 : Bool) (v0 s0 : Value) (q1 : Bool) (v1 s1 : Value) (q2 : Bool) (v2 s2 : Value) (x0 x1 x2 : VS), Bs v k7 q0 v0 s0 → Bs v k8 q1 v1 s1 → Bs v k9 q2 v2 s2 → Don v [k7, k8, k9] (.agg #[.bool q0, v0, s0]) x0 → Don v [k7, k8, k9] (.agg #[.bool q1, v1, s1]) x1 → Don v [k7, k8, k9] (.agg #[.bool q2, v2, s2]) x2 → Below N w0 v → N < v.heap.size → N + 1 + 1 < k7 → N + 1 + 1 < k8 → N + 1 + 1 < k9 → Q0 .normal (sjAct N r0 va0 sa0 r1 va1 sa1 r2 va2 sa2 (.pointer (some ⟨k7, 0, none⟩)) (.pointer (some ⟨k8, 0, none⟩)) (.pointer (some ⟨k9, 0, none⟩)) (.agg #[.bool r0, va0, sa0]) (e12) (.agg #[.bool q0, v0, s0]) (.agg #[.bool r1, va1, sa1]) (e15) (.agg #[.bool q1, v1, s1]) (.agg #[.bool r2, va2, sa2]) (e18) (.agg #[.bool q2, v2, s2])) v) (v : World) (k8 k9 : Nat) (K8 : Bs v k8 false (.slice none 0 0) (.slice none 0 0)) (F8 : Fs v k8) (n8 : N + 1 + 1 < k8) (K9 : Bs v k9 false (.slice none 0 0) (.slice none 0 0)) (F9 : Fs v k9) (n9 : N + 1 + 1 < k9) (e89 : k8 ≠ k9) (e12 : Value) (e13 : Value) (x0 : VS) (D0 : Don v [k8, k9] e13 x0) (e15 : Value) (e16 : Value) (x1 : VS) (D1 : Don v [k8, k9] e16 x1) (e18 : Value) (e19 : Value) (x2 : VS) (D2 : Don v [k8, k9] e19 x2) (hS : sjS N r0 va0 sa0 r1 va1 sa1 r2 va2 sa2 w0 v) : wpAnyH Try.prog .any sjOps Q0 (fun w => sjS N r0 va0 sa0 r1 va1 sa1 r2 va2 sa2 w0 w) 4 #[true, true, true, true, true, true, true, true, true, false, true, true, false, false, false] (sjAct N r0 va0 sa0 r1 va1 sa1 r2 va2 sa2 undef (.pointer (some ⟨k8, 0, none⟩)) (.pointer (some ⟨k9, 0, none⟩)) (.agg #[.bool r0, va0, sa0]) (e12) (e13) (.agg #[.bool r1, va1, sa1]) (e15) (e16) (.agg #[.bool r2, va2, sa2]) (e18) (e19)) v := by
  refine wpAnyH_ready (rs := [9]) (by kernel_rfl) (by simp) ?_
  refine AllReadyH.cons (o := ({ dst := some 7, op := Op.alloc 29, type := 0, pos := "law.go:143", after := #[], guard := none } : Oper)) rfl (fun K hK => ?_) AllReadyH.nil
  · dsimp only [sjAct]
    go_simp
    have hb : Below v.heap.size v (v.alloc (.cells #[.bool false, .slice none 0 0, .slice none 0 0] 29)) := (Below.refl _ _).alloc (Nat.le_refl _) _
    have M0 := D0.more (L' := [v.heap.size, k8, k9]) hb (by intro k hk; simp at hk ⊢; omega)
    have M1 := D1.more (L' := [v.heap.size, k8, k9]) hb (by intro k hk; simp at hk ⊢; omega)
    have M2 := D2.more (L' := [v.heap.size, k8, k9]) hb (by intro k hk; simp at hk ⊢; omega)
    refine hK.out _ _ (sj_keep hS hb) (fun hS2 => ?_)
    exact wpAnyH_listed (by kernel_rfl) (sj6_789 Q0 hP N r0 va0 sa0 r1 va1 sa1 r2 va2 sa2 w0 cA cB cC hQ _ v.heap.size k8 k9 (Bs.new v false (.slice none 0 0) (.slice none 0 0) 29) (Fs.new v false (.slice none 0 0) (.slice none 0 0) 29) hS.2.2.1.lt (K8.keep hb) (F8.of (hb.block _ K8.lt)) n8 (K9.keep hb) (F9.of (hb.block _ K9.lt)) n9 (Nat.ne_of_gt K8.lt) (Nat.ne_of_gt K9.lt) e89  e12 e13 x0 M0 e15 e16 x1 M1 e18 e19 x2 M2 hS2)
set_option maxRecDepth 100000 in
set_option maxHeartbeats 8000000 in
theorem sj6_7 (Q0 : Exit → Act → World → Prop) (hP : ∀ c (a : Act) d v w, Q0 (.panic c) (a.put d v) w → Q0 (.panic c) a w) (N : Nat) (r0 : Bool) (va0 sa0 : Value) (r1 : Bool) (va1 sa1 : Value) (r2 : Bool) (va2 sa2 : Value) (w0 : World) (cA : ∀ w, Below N w0 w → Calls Try.prog 10 #[.agg #[.bool r0, va0, sa0]] w fun e w' => ∃ v, e = .returned v ∧ Below w.heap.size w w' ∧ Pre w' v) (cB : ∀ w, Below N w0 w → Calls Try.prog 10 #[.agg #[.bool r1, va1, sa1]] w fun e w' => ∃ v, e = .returned v ∧ Below w.heap.size w w' ∧ Pre w' v) (cC : ∀ w, Below N w0 w → Calls Try.prog 10 #[.agg #[.bool r2, va2, sa2]] w fun e w' => ∃ v, e = .returned v ∧ Below w.heap.size w w' ∧ Pre w' v) (hQ : ∀ (v : World) (k7 k8 k9 : Nat) (e12 e15 e18 : Value) (q0 : Bool) (v0 s0 : Value) (q1 : Bool) (v1 s1 : Value) (q2 : Bool) (v2 s2 : Value) (x0 x1 x2 : VS), Bs v k7 q0 v0 s0 → Bs v k8 q1 v1 s1 → Bs v k9 q2 v2 s2 → Don v [k7, k8, k9] (.agg #[.bool q0, v0, s0]) x0 → Don v [k7, k8, k9] (.agg #[.bool q1, v1, s1]) x1 → Don v [k7, k8, k9] (.agg #[.bool q2, v2, s2]) x2 → Below N w0 v → N < v.heap.size → N + 1 + 1 < k7 → N + 1 + 1 < k8 → N + 1 + 1 < k9 → Q0 .normal (sjAct N r0 va0 sa0 r1 va1 sa1 r2 va2 sa2 (.pointer (some ⟨k7, 0, none⟩)) (.pointer (some ⟨k8, 0, none⟩)) (.pointer (some ⟨k9, 0, none⟩)) (.agg #[.bool r0, va0, sa0]) (e12) (.agg #[.bool q0, v0, s0]) (.agg #[.bool r1, va1, sa1]) (e15) (.agg #[.bool q1, v1, s1]) (.agg #[.bool r2, va2, sa2]) (e18) (.agg #[.bool q2, v2, s2])) v) (v : World) (k7 : Nat) (K7 : Bs v k7 false (.slice none 0 0) (.slice none 0 0)) (F7 : Fs v k7) (n7 : N + 1 + 1 < k7)  (e12 : Value) (e13 : Value) (x0 : VS) (D0 : Don v [k7] e13 x0) (e15 : Value) (e16 : Value) (x1 : VS) (D1 : Don v [k7] e16 x1) (e18 : Value) (e19 : Value) (x2 : VS) (D2 : Don v [k7] e19 x2) (hS : sjS N r0 va0 sa0 r1 va1 sa1 r2 va2 sa2 w0 v) : wpAnyH Try.prog .any sjOps Q0 (fun w => sjS N r0 va0 sa0 r1 va1 sa1 r2 va2 sa2 w0 w) 5 #[true, true, true, true, true, true, true, true, true, true, false, false, false, false, false] (sjAct N r0 va0 sa0 r1 va1 sa1 r2 va2 sa2 (.pointer (some ⟨k7, 0, none⟩)) undef undef (.agg #[.bool r0, va0, sa0]) (e12) (e13) (.agg #[.bool r1, va1, sa1]) (e15) (e16) (.agg #[.bool r2, va2, sa2]) (e18) (e19)) v := by
  refine wpAnyH_ready (rs := [10, 11]) (by kernel_rfl) (by simp) ?_
  refine AllReadyH.cons (o := ({ dst := some 8, op := Op.alloc 29, type := 0, pos := "law.go:143", after := #[], guard := none } : Oper)) rfl (fun K hK => ?_) (AllReadyH.cons (o := ({ dst := some 9, op := Op.alloc 29, type := 0, pos := "law.go:143", after := #[], guard := none } : Oper)) rfl (fun K hK => ?_) AllReadyH.nil)
  · dsimp only [sjAct]
    go_simp
    have hb : Below v.heap.size v (v.alloc (.cells #[.bool false, .slice none 0 0, .slice none 0 0] 29)) := (Below.refl _ _).alloc (Nat.le_refl _) _
    have M0 := D0.more (L' := [k7, v.heap.size]) hb (by intro k hk; simp at hk ⊢; omega)
    have M1 := D1.more (L' := [k7, v.heap.size]) hb (by intro k hk; simp at hk ⊢; omega)
    have M2 := D2.more (L' := [k7, v.heap.size]) hb (by intro k hk; simp at hk ⊢; omega)
    refine hK.out _ _ (sj_keep hS hb) (fun hS2 => ?_)
    exact wpAnyH_listed (by kernel_rfl) (sj6_78 Q0 hP N r0 va0 sa0 r1 va1 sa1 r2 va2 sa2 w0 cA cB cC hQ _ k7 v.heap.size (K7.keep hb) (F7.of (hb.block _ K7.lt)) n7 (Bs.new v false (.slice none 0 0) (.slice none 0 0) 29) (Fs.new v false (.slice none 0 0) (.slice none 0 0) 29) hS.2.2.1.lt (Nat.ne_of_lt K7.lt)  e12 e13 x0 M0 e15 e16 x1 M1 e18 e19 x2 M2 hS2)
  · dsimp only [sjAct]
    go_simp
    have hb : Below v.heap.size v (v.alloc (.cells #[.bool false, .slice none 0 0, .slice none 0 0] 29)) := (Below.refl _ _).alloc (Nat.le_refl _) _
    have M0 := D0.more (L' := [k7, v.heap.size]) hb (by intro k hk; simp at hk ⊢; omega)
    have M1 := D1.more (L' := [k7, v.heap.size]) hb (by intro k hk; simp at hk ⊢; omega)
    have M2 := D2.more (L' := [k7, v.heap.size]) hb (by intro k hk; simp at hk ⊢; omega)
    refine hK.out _ _ (sj_keep hS hb) (fun hS2 => ?_)
    exact wpAnyH_listed (by kernel_rfl) (sj6_79 Q0 hP N r0 va0 sa0 r1 va1 sa1 r2 va2 sa2 w0 cA cB cC hQ _ k7 v.heap.size (K7.keep hb) (F7.of (hb.block _ K7.lt)) n7 (Bs.new v false (.slice none 0 0) (.slice none 0 0) 29) (Fs.new v false (.slice none 0 0) (.slice none 0 0) 29) hS.2.2.1.lt (Nat.ne_of_lt K7.lt)  e12 e13 x0 M0 e15 e16 x1 M1 e18 e19 x2 M2 hS2)
set_option maxRecDepth 100000 in
set_option maxHeartbeats 8000000 in
theorem sj6_8 (Q0 : Exit → Act → World → Prop) (hP : ∀ c (a : Act) d v w, Q0 (.panic c) (a.put d v) w → Q0 (.panic c) a w) (N : Nat) (r0 : Bool) (va0 sa0 : Value) (r1 : Bool) (va1 sa1 : Value) (r2 : Bool) (va2 sa2 : Value) (w0 : World) (cA : ∀ w, Below N w0 w → Calls Try.prog 10 #[.agg #[.bool r0, va0, sa0]] w fun e w' => ∃ v, e = .returned v ∧ Below w.heap.size w w' ∧ Pre w' v) (cB : ∀ w, Below N w0 w → Calls Try.prog 10 #[.agg #[.bool r1, va1, sa1]] w fun e w' => ∃ v, e = .returned v ∧ Below w.heap.size w w' ∧ Pre w' v) (cC : ∀ w, Below N w0 w → Calls Try.prog 10 #[.agg #[.bool r2, va2, sa2]] w fun e w' => ∃ v, e = .returned v ∧ Below w.heap.size w w' ∧ Pre w' v) (hQ : ∀ (v : World) (k7 k8 k9 : Nat) (e12 e15 e18 : Value) (q0 : Bool) (v0 s0 : Value) (q1 : Bool) (v1 s1 : Value) (q2 : Bool) (v2 s2 : Value) (x0 x1 x2 : VS), Bs v k7 q0 v0 s0 → Bs v k8 q1 v1 s1 → Bs v k9 q2 v2 s2 → Don v [k7, k8, k9] (.agg #[.bool q0, v0, s0]) x0 → Don v [k7, k8, k9] (.agg #[.bool q1, v1, s1]) x1 → Don v [k7, k8, k9] (.agg #[.bool q2, v2, s2]) x2 → Below N w0 v → N < v.heap.size → N + 1 + 1 < k7 → N + 1 + 1 < k8 → N + 1 + 1 < k9 → Q0 .normal (sjAct N r0 va0 sa0 r1 va1 sa1 r2 va2 sa2 (.pointer (some ⟨k7, 0, none⟩)) (.pointer (some ⟨k8, 0, none⟩)) (.pointer (some ⟨k9, 0, none⟩)) (.agg #[.bool r0, va0, sa0]) (e12) (.agg #[.bool q0, v0, s0]) (.agg #[.bool r1, va1, sa1]) (e15) (.agg #[.bool q1, v1, s1]) (.agg #[.bool r2, va2, sa2]) (e18) (.agg #[.bool q2, v2, s2])) v) (v : World) (k8 : Nat) (K8 : Bs v k8 false (.slice none 0 0) (.slice none 0 0)) (F8 : Fs v k8) (n8 : N + 1 + 1 < k8)  (e12 : Value) (e13 : Value) (x0 : VS) (D0 : Don v [k8] e13 x0) (e15 : Value) (e16 : Value) (x1 : VS) (D1 : Don v [k8] e16 x1) (e18 : Value) (e19 : Value) (x2 : VS) (D2 : Don v [k8] e19 x2) (hS : sjS N r0 va0 sa0 r1 va1 sa1 r2 va2 sa2 w0 v) : wpAnyH Try.prog .any sjOps Q0 (fun w => sjS N r0 va0 sa0 r1 va1 sa1 r2 va2 sa2 w0 w) 5 #[true, true, true, true, true, true, true, true, true, false, true, false, false, false, false] (sjAct N r0 va0 sa0 r1 va1 sa1 r2 va2 sa2 undef (.pointer (some ⟨k8, 0, none⟩)) undef (.agg #[.bool r0, va0, sa0]) (e12) (e13) (.agg #[.bool r1, va1, sa1]) (e15) (e16) (.agg #[.bool r2, va2, sa2]) (e18) (e19)) v := by
  refine wpAnyH_ready (rs := [9, 11]) (by kernel_rfl) (by simp) ?_
  refine AllReadyH.cons (o := ({ dst := some 7, op := Op.alloc 29, type := 0, pos := "law.go:143", after := #[], guard := none } : Oper)) rfl (fun K hK => ?_) (AllReadyH.cons (o := ({ dst := some 9, op := Op.alloc 29, type := 0, pos := "law.go:143", after := #[], guard := none } : Oper)) rfl (fun K hK => ?_) AllReadyH.nil)
  · dsimp only [sjAct]
    go_simp
    have hb : Below v.heap.size v (v.alloc (.cells #[.bool false, .slice none 0 0, .slice none 0 0] 29)) := (Below.refl _ _).alloc (Nat.le_refl _) _
    have M0 := D0.more (L' := [v.heap.size, k8]) hb (by intro k hk; simp at hk ⊢; omega)
    have M1 := D1.more (L' := [v.heap.size, k8]) hb (by intro k hk; simp at hk ⊢; omega)
    have M2 := D2.more (L' := [v.heap.size, k8]) hb (by intro k hk; simp at hk ⊢; omega)
    refine hK.out _ _ (sj_keep hS hb) (fun hS2 => ?_)
    exact wpAnyH_listed (by kernel_rfl) (sj6_78 Q0 hP N r0 va0 sa0 r1 va1 sa1 r2 va2 sa2 w0 cA cB cC hQ _ v.heap.size k8 (Bs.new v false (.slice none 0 0) (.slice none 0 0) 29) (Fs.new v false (.slice none 0 0) (.slice none 0 0) 29) hS.2.2.1.lt (K8.keep hb) (F8.of (hb.block _ K8.lt)) n8 (Nat.ne_of_gt K8.lt)  e12 e13 x0 M0 e15 e16 x1 M1 e18 e19 x2 M2 hS2)
  · dsimp only [sjAct]
    go_simp
    have hb : Below v.heap.size v (v.alloc (.cells #[.bool false, .slice none 0 0, .slice none 0 0] 29)) := (Below.refl _ _).alloc (Nat.le_refl _) _
    have M0 := D0.more (L' := [k8, v.heap.size]) hb (by intro k hk; simp at hk ⊢; omega)
    have M1 := D1.more (L' := [k8, v.heap.size]) hb (by intro k hk; simp at hk ⊢; omega)
    have M2 := D2.more (L' := [k8, v.heap.size]) hb (by intro k hk; simp at hk ⊢; omega)
    refine hK.out _ _ (sj_keep hS hb) (fun hS2 => ?_)
    exact wpAnyH_listed (by kernel_rfl) (sj6_89 Q0 hP N r0 va0 sa0 r1 va1 sa1 r2 va2 sa2 w0 cA cB cC hQ _ k8 v.heap.size (K8.keep hb) (F8.of (hb.block _ K8.lt)) n8 (Bs.new v false (.slice none 0 0) (.slice none 0 0) 29) (Fs.new v false (.slice none 0 0) (.slice none 0 0) 29) hS.2.2.1.lt (Nat.ne_of_lt K8.lt)  e12 e13 x0 M0 e15 e16 x1 M1 e18 e19 x2 M2 hS2)
set_option maxRecDepth 100000 in
set_option maxHeartbeats 8000000 in
theorem sj6_9 (Q0 : Exit → Act → World → Prop) (hP : ∀ c (a : Act) d v w, Q0 (.panic c) (a.put d v) w → Q0 (.panic c) a w) (N : Nat) (r0 : Bool) (va0 sa0 : Value) (r1 : Bool) (va1 sa1 : Value) (r2 : Bool) (va2 sa2 : Value) (w0 : World) (cA : ∀ w, Below N w0 w → Calls Try.prog 10 #[.agg #[.bool r0, va0, sa0]] w fun e w' => ∃ v, e = .returned v ∧ Below w.heap.size w w' ∧ Pre w' v) (cB : ∀ w, Below N w0 w → Calls Try.prog 10 #[.agg #[.bool r1, va1, sa1]] w fun e w' => ∃ v, e = .returned v ∧ Below w.heap.size w w' ∧ Pre w' v) (cC : ∀ w, Below N w0 w → Calls Try.prog 10 #[.agg #[.bool r2, va2, sa2]] w fun e w' => ∃ v, e = .returned v ∧ Below w.heap.size w w' ∧ Pre w' v) (hQ : ∀ (v : World) (k7 k8 k9 : Nat) (e12 e15 e18 : Value) (q0 : Bool) (v0 s0 : Value) (q1 : Bool) (v1 s1 : Value) (q2 : Bool) (v2 s2 : Value) (x0 x1 x2 : VS), Bs v k7 q0 v0 s0 → Bs v k8 q1 v1 s1 → Bs v k9 q2 v2 s2 → Don v [k7, k8, k9] (.agg #[.bool q0, v0, s0]) x0 → Don v [k7, k8, k9] (.agg #[.bool q1, v1, s1]) x1 → Don v [k7, k8, k9] (.agg #[.bool q2, v2, s2]) x2 → Below N w0 v → N < v.heap.size → N + 1 + 1 < k7 → N + 1 + 1 < k8 → N + 1 + 1 < k9 → Q0 .normal (sjAct N r0 va0 sa0 r1 va1 sa1 r2 va2 sa2 (.pointer (some ⟨k7, 0, none⟩)) (.pointer (some ⟨k8, 0, none⟩)) (.pointer (some ⟨k9, 0, none⟩)) (.agg #[.bool r0, va0, sa0]) (e12) (.agg #[.bool q0, v0, s0]) (.agg #[.bool r1, va1, sa1]) (e15) (.agg #[.bool q1, v1, s1]) (.agg #[.bool r2, va2, sa2]) (e18) (.agg #[.bool q2, v2, s2])) v) (v : World) (k9 : Nat) (K9 : Bs v k9 false (.slice none 0 0) (.slice none 0 0)) (F9 : Fs v k9) (n9 : N + 1 + 1 < k9)  (e12 : Value) (e13 : Value) (x0 : VS) (D0 : Don v [k9] e13 x0) (e15 : Value) (e16 : Value) (x1 : VS) (D1 : Don v [k9] e16 x1) (e18 : Value) (e19 : Value) (x2 : VS) (D2 : Don v [k9] e19 x2) (hS : sjS N r0 va0 sa0 r1 va1 sa1 r2 va2 sa2 w0 v) : wpAnyH Try.prog .any sjOps Q0 (fun w => sjS N r0 va0 sa0 r1 va1 sa1 r2 va2 sa2 w0 w) 5 #[true, true, true, true, true, true, true, true, true, false, false, true, false, false, false] (sjAct N r0 va0 sa0 r1 va1 sa1 r2 va2 sa2 undef undef (.pointer (some ⟨k9, 0, none⟩)) (.agg #[.bool r0, va0, sa0]) (e12) (e13) (.agg #[.bool r1, va1, sa1]) (e15) (e16) (.agg #[.bool r2, va2, sa2]) (e18) (e19)) v := by
  refine wpAnyH_ready (rs := [9, 10]) (by kernel_rfl) (by simp) ?_
  refine AllReadyH.cons (o := ({ dst := some 7, op := Op.alloc 29, type := 0, pos := "law.go:143", after := #[], guard := none } : Oper)) rfl (fun K hK => ?_) (AllReadyH.cons (o := ({ dst := some 8, op := Op.alloc 29, type := 0, pos := "law.go:143", after := #[], guard := none } : Oper)) rfl (fun K hK => ?_) AllReadyH.nil)
  · dsimp only [sjAct]
    go_simp
    have hb : Below v.heap.size v (v.alloc (.cells #[.bool false, .slice none 0 0, .slice none 0 0] 29)) := (Below.refl _ _).alloc (Nat.le_refl _) _
    have M0 := D0.more (L' := [v.heap.size, k9]) hb (by intro k hk; simp at hk ⊢; omega)
    have M1 := D1.more (L' := [v.heap.size, k9]) hb (by intro k hk; simp at hk ⊢; omega)
    have M2 := D2.more (L' := [v.heap.size, k9]) hb (by intro k hk; simp at hk ⊢; omega)
    refine hK.out _ _ (sj_keep hS hb) (fun hS2 => ?_)
    exact wpAnyH_listed (by kernel_rfl) (sj6_79 Q0 hP N r0 va0 sa0 r1 va1 sa1 r2 va2 sa2 w0 cA cB cC hQ _ v.heap.size k9 (Bs.new v false (.slice none 0 0) (.slice none 0 0) 29) (Fs.new v false (.slice none 0 0) (.slice none 0 0) 29) hS.2.2.1.lt (K9.keep hb) (F9.of (hb.block _ K9.lt)) n9 (Nat.ne_of_gt K9.lt)  e12 e13 x0 M0 e15 e16 x1 M1 e18 e19 x2 M2 hS2)
  · dsimp only [sjAct]
    go_simp
    have hb : Below v.heap.size v (v.alloc (.cells #[.bool false, .slice none 0 0, .slice none 0 0] 29)) := (Below.refl _ _).alloc (Nat.le_refl _) _
    have M0 := D0.more (L' := [v.heap.size, k9]) hb (by intro k hk; simp at hk ⊢; omega)
    have M1 := D1.more (L' := [v.heap.size, k9]) hb (by intro k hk; simp at hk ⊢; omega)
    have M2 := D2.more (L' := [v.heap.size, k9]) hb (by intro k hk; simp at hk ⊢; omega)
    refine hK.out _ _ (sj_keep hS hb) (fun hS2 => ?_)
    exact wpAnyH_listed (by kernel_rfl) (sj6_89 Q0 hP N r0 va0 sa0 r1 va1 sa1 r2 va2 sa2 w0 cA cB cC hQ _ v.heap.size k9 (Bs.new v false (.slice none 0 0) (.slice none 0 0) 29) (Fs.new v false (.slice none 0 0) (.slice none 0 0) 29) hS.2.2.1.lt (K9.keep hb) (F9.of (hb.block _ K9.lt)) n9 (Nat.ne_of_gt K9.lt)  e12 e13 x0 M0 e15 e16 x1 M1 e18 e19 x2 M2 hS2)
set_option maxRecDepth 100000 in
set_option maxHeartbeats 8000000 in
theorem sj6_n (Q0 : Exit → Act → World → Prop) (hP : ∀ c (a : Act) d v w, Q0 (.panic c) (a.put d v) w → Q0 (.panic c) a w) (N : Nat) (r0 : Bool) (va0 sa0 : Value) (r1 : Bool) (va1 sa1 : Value) (r2 : Bool) (va2 sa2 : Value) (w0 : World) (cA : ∀ w, Below N w0 w → Calls Try.prog 10 #[.agg #[.bool r0, va0, sa0]] w fun e w' => ∃ v, e = .returned v ∧ Below w.heap.size w w' ∧ Pre w' v) (cB : ∀ w, Below N w0 w → Calls Try.prog 10 #[.agg #[.bool r1, va1, sa1]] w fun e w' => ∃ v, e = .returned v ∧ Below w.heap.size w w' ∧ Pre w' v) (cC : ∀ w, Below N w0 w → Calls Try.prog 10 #[.agg #[.bool r2, va2, sa2]] w fun e w' => ∃ v, e = .returned v ∧ Below w.heap.size w w' ∧ Pre w' v) (hQ : ∀ (v : World) (k7 k8 k9 : Nat) (e12 e15 e18 : Value) (q0 : Bool) (v0 s0 : Value) (q1 : Bool) (v1 s1 : Value) (q2 : Bool) (v2 s2 : Value) (x0 x1 x2 : VS), Bs v k7 q0 v0 s0 → Bs v k8 q1 v1 s1 → Bs v k9 q2 v2 s2 → Don v [k7, k8, k9] (.agg #[.bool q0, v0, s0]) x0 → Don v [k7, k8, k9] (.agg #[.bool q1, v1, s1]) x1 → Don v [k7, k8, k9] (.agg #[.bool q2, v2, s2]) x2 → Below N w0 v → N < v.heap.size → N + 1 + 1 < k7 → N + 1 + 1 < k8 → N + 1 + 1 < k9 → Q0 .normal (sjAct N r0 va0 sa0 r1 va1 sa1 r2 va2 sa2 (.pointer (some ⟨k7, 0, none⟩)) (.pointer (some ⟨k8, 0, none⟩)) (.pointer (some ⟨k9, 0, none⟩)) (.agg #[.bool r0, va0, sa0]) (e12) (.agg #[.bool q0, v0, s0]) (.agg #[.bool r1, va1, sa1]) (e15) (.agg #[.bool q1, v1, s1]) (.agg #[.bool r2, va2, sa2]) (e18) (.agg #[.bool q2, v2, s2])) v) (v : World)   (e12 : Value) (e13 : Value) (x0 : VS) (D0 : Don v [] e13 x0) (e15 : Value) (e16 : Value) (x1 : VS) (D1 : Don v [] e16 x1) (e18 : Value) (e19 : Value) (x2 : VS) (D2 : Don v [] e19 x2) (hS : sjS N r0 va0 sa0 r1 va1 sa1 r2 va2 sa2 w0 v) : wpAnyH Try.prog .any sjOps Q0 (fun w => sjS N r0 va0 sa0 r1 va1 sa1 r2 va2 sa2 w0 w) 6 #[true, true, true, true, true, true, true, true, true, false, false, false, false, false, false] (sjAct N r0 va0 sa0 r1 va1 sa1 r2 va2 sa2 undef undef undef (.agg #[.bool r0, va0, sa0]) (e12) (e13) (.agg #[.bool r1, va1, sa1]) (e15) (e16) (.agg #[.bool r2, va2, sa2]) (e18) (e19)) v := by
  refine wpAnyH_ready (rs := [9, 10, 11]) (by kernel_rfl) (by simp) ?_
  refine AllReadyH.cons (o := ({ dst := some 7, op := Op.alloc 29, type := 0, pos := "law.go:143", after := #[], guard := none } : Oper)) rfl (fun K hK => ?_) (AllReadyH.cons (o := ({ dst := some 8, op := Op.alloc 29, type := 0, pos := "law.go:143", after := #[], guard := none } : Oper)) rfl (fun K hK => ?_) (AllReadyH.cons (o := ({ dst := some 9, op := Op.alloc 29, type := 0, pos := "law.go:143", after := #[], guard := none } : Oper)) rfl (fun K hK => ?_) AllReadyH.nil))
  · dsimp only [sjAct]
    go_simp
    have hb : Below v.heap.size v (v.alloc (.cells #[.bool false, .slice none 0 0, .slice none 0 0] 29)) := (Below.refl _ _).alloc (Nat.le_refl _) _
    have M0 := D0.more (L' := [v.heap.size]) hb (by intro k hk; simp at hk ⊢; omega)
    have M1 := D1.more (L' := [v.heap.size]) hb (by intro k hk; simp at hk ⊢; omega)
    have M2 := D2.more (L' := [v.heap.size]) hb (by intro k hk; simp at hk ⊢; omega)
    refine hK.out _ _ (sj_keep hS hb) (fun hS2 => ?_)
    exact wpAnyH_listed (by kernel_rfl) (sj6_7 Q0 hP N r0 va0 sa0 r1 va1 sa1 r2 va2 sa2 w0 cA cB cC hQ _ v.heap.size (Bs.new v false (.slice none 0 0) (.slice none 0 0) 29) (Fs.new v false (.slice none 0 0) (.slice none 0 0) 29) hS.2.2.1.lt   e12 e13 x0 M0 e15 e16 x1 M1 e18 e19 x2 M2 hS2)
  · dsimp only [sjAct]
    go_simp
    have hb : Below v.heap.size v (v.alloc (.cells #[.bool false, .slice none 0 0, .slice none 0 0] 29)) := (Below.refl _ _).alloc (Nat.le_refl _) _
    have M0 := D0.more (L' := [v.heap.size]) hb (by intro k hk; simp at hk ⊢; omega)
    have M1 := D1.more (L' := [v.heap.size]) hb (by intro k hk; simp at hk ⊢; omega)
    have M2 := D2.more (L' := [v.heap.size]) hb (by intro k hk; simp at hk ⊢; omega)
    refine hK.out _ _ (sj_keep hS hb) (fun hS2 => ?_)
    exact wpAnyH_listed (by kernel_rfl) (sj6_8 Q0 hP N r0 va0 sa0 r1 va1 sa1 r2 va2 sa2 w0 cA cB cC hQ _ v.heap.size (Bs.new v false (.slice none 0 0) (.slice none 0 0) 29) (Fs.new v false (.slice none 0 0) (.slice none 0 0) 29) hS.2.2.1.lt   e12 e13 x0 M0 e15 e16 x1 M1 e18 e19 x2 M2 hS2)
  · dsimp only [sjAct]
    go_simp
    have hb : Below v.heap.size v (v.alloc (.cells #[.bool false, .slice none 0 0, .slice none 0 0] 29)) := (Below.refl _ _).alloc (Nat.le_refl _) _
    have M0 := D0.more (L' := [v.heap.size]) hb (by intro k hk; simp at hk ⊢; omega)
    have M1 := D1.more (L' := [v.heap.size]) hb (by intro k hk; simp at hk ⊢; omega)
    have M2 := D2.more (L' := [v.heap.size]) hb (by intro k hk; simp at hk ⊢; omega)
    refine hK.out _ _ (sj_keep hS hb) (fun hS2 => ?_)
    exact wpAnyH_listed (by kernel_rfl) (sj6_9 Q0 hP N r0 va0 sa0 r1 va1 sa1 r2 va2 sa2 w0 cA cB cC hQ _ v.heap.size (Bs.new v false (.slice none 0 0) (.slice none 0 0) 29) (Fs.new v false (.slice none 0 0) (.slice none 0 0) 29) hS.2.2.1.lt   e12 e13 x0 M0 e15 e16 x1 M1 e18 e19 x2 M2 hS2)
end Go.Proofs.Ytmhicllhjiglkaa
