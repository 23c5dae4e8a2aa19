import Derived.WalkKit
import Derived.WalkSpells
import Derived.WalkLawsBesides
import Derived.Test.YtidhcmhheohciaaDoorG00
import Derived.LaidEql
import Derived.Stop.Asserts
import Derived.RowKitTokens
import Derived.Deep.LoopGhost
import Derived.Defers
import Derived.Recover
import Derived.Deep.QuietTactic
import Derived.BigQuiet
/- Frames and owned objects, over any program. -/
namespace Go.Proofs.YtidhcmhheohciaaDoor
open Go.RowKit

/-- w' is w but for new blocks and for what S names. -/
structure Fr (S : Nat → Prop) (w w' : World) : Prop where
  os : w'.os = w.os
  tape : w'.tape = w.tape
  output : w'.output = w.output
  size : w.heap.size ≤ w'.heap.size
  block : ∀ k, k < w.heap.size → ¬ S k → w'.heap[k]? = w.heap[k]?

theorem Fr.refl (S : Nat → Prop) (w : World) : Fr S w w := ⟨rfl, rfl, rfl, Nat.le_refl _, fun _ _ _ => rfl⟩
theorem Fr.trans {S : Nat → Prop} {a b c : World} (h : Fr S a b) (k : Fr S b c) : Fr S a c :=
  ⟨k.os.trans h.os, k.tape.trans h.tape, k.output.trans h.output, Nat.le_trans h.size k.size, fun j hj hs => (k.block j (Nat.lt_of_lt_of_le hj h.size) hs).trans (h.block j hj hs)⟩
/-- two steps; what the second one names is named by the whole, or is new to the first world -/
theorem Fr.trans' {S T U : Nat → Prop} {a b c : World} (h : Fr S a b) (k : Fr T b c) (hS : ∀ j, j < a.heap.size → S j → U j) (hT : ∀ j, j < a.heap.size → T j → U j) : Fr U a c :=
  ⟨k.os.trans h.os, k.tape.trans h.tape, k.output.trans h.output, Nat.le_trans h.size k.size, fun j hj hu =>
    (k.block j (Nat.lt_of_lt_of_le hj h.size) (fun x => hu (hT j hj x))).trans (h.block j hj (fun x => hu (hS j hj x)))⟩
theorem Fr.mono {S T : Nat → Prop} {a b : World} (h : Fr S a b) (hS : ∀ j, j < a.heap.size → S j → T j) : Fr T a b :=
  ⟨h.os, h.tape, h.output, h.size, fun j hj hu => h.block j hj (fun x => hu (hS j hj x))⟩
theorem Fr.drew {S : Nat → Prop} {a w : World} (h : Fr S a w) : Fr S a w.drew := ⟨h.os, h.tape, h.output, h.size, h.block⟩
theorem Fr.alloc {S : Nat → Prop} {a w : World} (h : Fr S a w) (o : Obj) : Fr S a (w.alloc o) :=
  ⟨h.os, h.tape, h.output, by have := h.size; simp; omega, fun k hk hs => (Below.heap_alloc w o k (Nat.lt_of_lt_of_le hk h.size)).trans (h.block k hk hs)⟩
theorem Fr.setCell {S : Nat → Prop} {a w : World} (h : Fr S a w) (p : Addr) (hp : p.block < a.heap.size → S p.block) (u : Value) : Fr S a (w.setCell p u) :=
  ⟨h.os, h.tape, h.output, by have := h.size; simpa using this, fun k hk hs => (Below.heap_setCell w p u k (fun e => hs (e ▸ hp (e ▸ hk)))).trans (h.block k hk hs)⟩
theorem Fr.grown {S : Nat → Prop} {a w w' : World} {row : Option Nat} (h : Fr S a w) (hg : w.grownBy w' row) (hr : ∀ k, row = some k → k < a.heap.size → S k) : Fr S a w' :=
  ⟨hg.os.trans h.os, hg.tape.trans h.tape, hg.output.trans h.output, Nat.le_trans h.size hg.size, fun k hk hs =>
    (hg.block k (Nat.lt_of_lt_of_le hk h.size) (fun e => hs (hr k e.symm hk))).trans (h.block k hk hs)⟩
theorem Fr.below {S : Nat → Prop} {w w' : World} {B : Nat} (h : Fr S w w') (hB : B ≤ w.heap.size) (hS : ∀ k, S k → B ≤ k) : Below B w w' :=
  ⟨h.os, h.tape, h.output, h.size, fun k hk => h.block k (by omega) (fun x => by have := hS k x; omega)⟩
theorem Fr.ofBelow {w w' : World} {S : Nat → Prop} (h : Below w.heap.size w w') : Fr S w w' :=
  ⟨h.os, h.tape, h.output, h.size, fun k hk _ => h.block k hk⟩
theorem Fr.cell {S : Nat → Prop} {w w' : World} (h : Fr S w w') {p : Addr} {v : Value} (hc : w.cell? p = some v) (hs : ¬ S p.block) : w'.cell? p = some v :=
  (World.cell?_of_block (h.block p.block (World.block_lt_of_cell? w p hc) hs)).trans hc
theorem Fr.heap {S : Nat → Prop} {w w' : World} (h : Fr S w w') {k : Nat} {o : Obj} (hc : w.heap[k]? = some o) (hs : ¬ S k) : w'.heap[k]? = some o := by
  have hk : k < w.heap.size := by
    rcases Nat.lt_or_ge k w.heap.size with x | x
    · exact x
    · rw [Array.getElem?_eq_none x] at hc; cases hc
  exact (h.block k hk hs).trans hc
theorem heap_lt {w : World} {k : Nat} {o : Obj} (hc : w.heap[k]? = some o) : k < w.heap.size := by
  rcases Nat.lt_or_ge k w.heap.size with x | x
  · exact x
  · rw [Array.getElem?_eq_none x] at hc; cases hc

/-- bytes, as cells -/
def B8 (bs : List UInt8) : List Value := bs.map fun c => .int .u8 (c.toNat : Int)
theorem B8_append (a b : List UInt8) : B8 (a ++ b) = B8 a ++ B8 b := by simp [B8]
theorem B8_length (a : List UInt8) : (B8 a).length = a.length := by simp [B8]

/-- an owned row, in another world that has its block -/
theorem ownsRow_heap {w w' : World} {base e size n : Nat} {v : Value} {xs : List Value} (h : w.ownsRow base e size v n xs) (hb : ∀ k, v.ownBlock = some k → w'.heap[k]? = w.heap[k]?) : w'.ownsRow base e size v n xs := by
  refine ⟨h.1, ?_⟩
  rcases h.2 with ⟨rfl, rfl⟩ | ⟨g, cap, cur, rfl, h1, h2, h3, h4, h5, h6⟩
  · exact .inl ⟨rfl, rfl⟩
  · exact .inr ⟨g, cap, cur, rfl, h1, (hb g rfl).trans h2, h3, h4, h5, h6⟩

theorem ownsRow_slice {w : World} {base e size n : Nat} {v : Value} {xs : List Value} (h : w.ownsRow base e size v n xs) : ∃ a c, v = .slice a n c := by
  rcases h.2 with ⟨rfl, rfl⟩ | ⟨g, cap, cur, rfl, _⟩
  · exact ⟨none, 0, rfl⟩
  · exact ⟨_, _, rfl⟩

section
variable {P : Program} (w : World)
/-- append onto an owned row, and where its row lies then: where it lay, or in a new block. -/
theorem run_append_where (t ty e : TypeId) (i : TypeInfo) (z : Value) (size bytes : Nat) (ht : P.underlying t = some (.slice e)) (hi : P.info? e = some i) (hz : i.zero = some z)
    (hsize : i.size = size) (hby : i.bytes = bytes) (hzs : z.cells.size = size) (hsz : 0 < size)
    (v : Value) (n : Nat) (xs : List Value) (hown : w.ownsRow 0 e size v n xs)
    (a : Addr) (m c : Nat) (news : List Value) (hl : news.length = m * size) (hnews : ∀ j u, news[j]? = some u → w.cell? (a.add j) = some u) (h1 : ∀ u ∈ news, u.oneCell' = true)
    (h63 : n + m ≤ maxLen) (hbytes : (n + m) * bytes ≤ 140737488355328) :
    ∃ v' w', (Builtin.append_ #[t, t] ty #[v, .slice (some a) m c]).run P w = .ok v' w' ∧ w'.ownsRow 0 e size v' (n + m) (xs ++ news) ∧ w.grownBy w' v.ownBlock ∧
      (v'.ownBlock = v.ownBlock ∨ v'.ownBlock = some w.heap.size) := by
  obtain ⟨v', w', hr, ho, hg, hn⟩ := run_append_own (P := P) w 0 t ty e i z size bytes ht hi hz hsize hby hzs hsz v n xs hown a m c news hl hnews h1 h63 hbytes (Nat.zero_le _)
  refine ⟨v', w', hr, ho, hg, ?_⟩
  have hsmall : n + m ≤ 9223372036854775807 := by simp only [maxLen] at h63; omega
  subst hsize
  subst hby
  rcases hown.2 with ⟨rfl, rfl⟩ | ⟨g, cap, cur, rfl, hbg, hgc, hnc, hcm, hcs, htake⟩
  · by_cases hm : m = 0
    · exact .inl (by rw [hn.2 ⟨rfl, hm⟩])
    · have hx := run_append_nil (P := P) w t ty e i z ht hi hz a m c news hl hnews (by omega) (by omega) (by have hb := hbytes; simp only [Nat.zero_add] at hb; omega)
      rw [hr] at hx
      injection hx with h2 h3
      exact .inr (by rw [h2]; rfl)
  · by_cases hroom : n + m ≤ cap
    · have hfit : n * i.size + news.length ≤ cur.size := by rw [hl, hcs, ← Nat.add_mul]; exact Nat.mul_le_mul_right _ hroom
      have hx := run_append_room (P := P) w t ty e i ht hi g n cap cur hgc a m c news hl hnews h1 hroom hfit
      rw [hr] at hx
      injection hx with h2 h3
      exact .inl (by rw [h2]; rfl)
    · have holds : ∀ j u, xs[j]? = some u → w.cell? ((⟨g, 0, none⟩ : Addr).add j) = some u := hown.cells (g := g) rfl
      have hx := run_append_grow (P := P) w t ty e i z ht hi hz ⟨g, 0, none⟩ n cap xs hown.1 holds a m c news hl hnews (by omega) (by omega) (growslice_fits (by omega) hbytes)
      rw [hr] at hx
      injection hx with h2 h3
      exact .inr (by rw [h2]; rfl)

theorem wpList_append_where {ops : Array Oper} {rest : List Oper} {o : Oper} {a : Act} {Q : Exit → Act → World → Prop} (hgd : o.guard = none) (s x : Operand) (t : TypeId)
    (ho : o.op = .call { callee := .builtin .append, args := #[s, x], argTypes := #[t, t] })
    (e : TypeId) (i : TypeInfo) (z : Value) (size bytes : Nat) (ht : P.underlying t = some (.slice e)) (hi : P.info? e = some i) (hz : i.zero = some z)
    (hsize : i.size = size) (hby : i.bytes = bytes) (hzs : z.cells.size = size) (hsz : 0 < size)
    (v : Value) (n : Nat) (xs : List Value) (hs : a.eval s = v) (hown : w.ownsRow 0 e size v n xs)
    (ad : Addr) (m c : Nat) (news : List Value) (hx : a.eval x = .slice (some ad) m c) (hl : news.length = m * size) (hnews : ∀ j u, news[j]? = some u → w.cell? (ad.add j) = some u) (h1 : ∀ u ∈ news, u.oneCell' = true)
    (h63 : n + m ≤ maxLen) (hbytes : (n + m) * bytes ≤ 140737488355328)
    (h : ∀ a' c' w', w'.ownsRow 0 e size (.slice a' (n + m) c') (n + m) (xs ++ news) → w.grownBy w' v.ownBlock → ((Value.slice a' (n + m) c').ownBlock = v.ownBlock ∨ (Value.slice a' (n + m) c').ownBlock = some w.heap.size) → wpList P ops Q rest (a.put o.dst (.slice a' (n + m) c')) w') : wpList P ops Q (o :: rest) a w := by
  refine wpList_plain hgd fun K hK => ?_
  obtain ⟨v', w', hr, h2, h3, h4⟩ := run_append_where (P := P) w t o.type e i z size bytes ht hi hz hsize hby hzs hsz v n xs hown ad m c news hl hnews h1 h63 hbytes
  obtain ⟨a', c', rfl⟩ := ownsRow_slice h2
  unfold Oper.wp execOp
  simp only [ho, resolve, invoke, builtin, Sem.run_bind, Sem.run_pure, Result.andThen_ok, List.map_toArray, List.map_cons, List.map_nil, hs, hx, hr]
  exact hK _ _ (h a' c' w' h2 h3 h4)
end
end Go.Proofs.YtidhcmhheohciaaDoor
namespace Go.Proofs.YtidhcmhheohciaaDoor
open Go.RowKit Go.Extern.Stop Go.Stop Go.Extern
theorem hh24 : typeHandle Tryd.prog 27 = .pointer (some ⟨1, 27, none⟩) := by kernel_rfl
theorem Tryd.valueOf37 (t : Addr) (w : World) : (ReflectliteValue.unpack (.iface 84 (.pointer (some t)))).run Tryd.prog w
    = .ok (.agg #[.pointer (some ⟨1, 84, none⟩), .pointer (some ⟨w.heap.size, 0, none⟩), .int .u64 150]) (w.alloc (.cells #[.pointer (some t)] 84)) := by kernel_rfl
theorem Tryd.type37 (a : Addr) (w : World) : (ReflectliteValue.methodAny (ReflectliteValue.valueError "reflectlite.Value.Type" 0) (fun t _ _ _ => ReflectliteType.toType t) #[.agg #[.pointer (some ⟨1, 84, none⟩), .pointer (some a), .int .u64 150]]).run Tryd.prog w
    = .ok (.iface 94 (.agg #[.pointer (some ⟨1, 84, none⟩)])) w := by kernel_rfl
theorem Tryd.kind37 (w : World) : ((ReflectliteType.abiMethod fun t => (fun a : Nat => Value.int IntKind.u8 (a : Int)) <$> Rtype.kind t) #[.pointer (some ⟨1, 84, none⟩)]).run Tryd.prog w = .ok (.int .u8 22) w := by kernel_rfl
theorem Tryd.kind29 (w : World) : ((ReflectliteType.abiMethod fun t => (fun a : Nat => Value.int IntKind.u8 (a : Int)) <$> Rtype.kind t) #[.pointer (some ⟨1, 32, none⟩)]).run Tryd.prog w = .ok (.int .u8 2) w := by kernel_rfl
theorem Tryd.elem37 (w : World) : (ReflectliteType.method ReflectliteType.elem #[.agg #[.pointer (some ⟨1, 84, none⟩)]]).run Tryd.prog w = .ok (.iface 94 (.agg #[.pointer (some ⟨1, 32, none⟩)])) w := by kernel_rfl
theorem Tryd.implements29 (w : World) : (ReflectliteType.relation "Implements" ReflectliteType.implements_ #[.agg #[.pointer (some ⟨1, 32, none⟩)], .iface 94 (.agg #[.pointer (some ⟨1, 27, none⟩)])]).run Tryd.prog w = .ok (.bool true) w := by kernel_rfl
theorem Tryd.typeOf29 (v : Value) (w : World) : (ReflectliteType.typeOf #[.iface 32 v]).run Tryd.prog w = .ok (.iface 94 (.agg #[.pointer (some ⟨1, 32, none⟩)])) w := by kernel_rfl
theorem Tryd.typeOf111 (v : Value) (w : World) : (ReflectliteType.typeOf #[.iface 86 v]).run Tryd.prog w = .ok (.iface 94 (.agg #[.pointer (some ⟨1, 86, none⟩)])) w := by kernel_rfl
theorem Tryd.assignable29 (w : World) : (ReflectliteType.relation "AssignableTo" ReflectliteType.assignableTo #[.agg #[.pointer (some ⟨1, 32, none⟩)], .iface 94 (.agg #[.pointer (some ⟨1, 32, none⟩)])]).run Tryd.prog w = .ok (.bool true) w := by kernel_rfl
theorem Tryd.assignable111 (w : World) : (ReflectliteType.relation "AssignableTo" ReflectliteType.assignableTo #[.agg #[.pointer (some ⟨1, 86, none⟩)], .iface 94 (.agg #[.pointer (some ⟨1, 32, none⟩)])]).run Tryd.prog w = .ok (.bool false) w := by kernel_rfl
theorem Tryd.valueOf29 (k : Int) (w : World) : (ReflectliteValue.unpack (.iface 32 (.int .i64 k))).run Tryd.prog w
    = .ok (.agg #[.pointer (some ⟨1, 32, none⟩), .pointer (some ⟨w.heap.size, 0, none⟩), .int .u64 130]) (w.alloc (.cells #[.int .i64 k] 32)) := by kernel_rfl
theorem Tryd.elemOf37 (w : World) : (Rtype.elem? 84).run Tryd.prog w = .ok (some 32) w := by kernel_rfl
theorem Tryd.mk29 (p : Addr) (w : World) : (ReflectliteValue.mk 32 p ReflectliteValue.flagAddr).run Tryd.prog w = .ok (.agg #[.pointer (some ⟨1, 32, none⟩), .pointer (some p), .int .u64 386]) w := by kernel_rfl
theorem Tryd.direct29 (w : World) : (Rtype.directlyAssignable 32 32).run Tryd.prog w = .ok true w := by kernel_rfl
theorem Tryd.methodKind (h : Value) (w : World) : (Go.method 254 94 (.agg #[h]) "Kind").run Tryd.prog w = .ok (89, h) w := by kernel_rfl
theorem Tryd.methodElem (h : Value) (w : World) : (Go.method 254 94 (.agg #[h]) "Elem").run Tryd.prog w = .ok (98, .agg #[h]) w := by kernel_rfl
theorem Tryd.methodImplements (h : Value) (w : World) : (Go.method 254 94 (.agg #[h]) "Implements").run Tryd.prog w = .ok (99, .agg #[h]) w := by kernel_rfl
theorem Tryd.methodAssignableTo (h : Value) (w : World) : (Go.method 254 94 (.agg #[h]) "AssignableTo").run Tryd.prog w = .ok (96, .agg #[h]) w := by kernel_rfl
theorem Tryd.methodUnwrap (a : Addr) (w : World) : (Go.method 254 86 (.pointer (some a)) "Unwrap").run Tryd.prog w = .ok (94, .pointer (some a)) w := by kernel_rfl
theorem Tryd.noAs111 (v : Value) (xT : TypeId) (w : World) : (Instr.typeAssert (.iface 86 v) xT 120 true).run Tryd.prog w = .ok (.tuple #[.nilIface, .bool false]) w := run_typeAssert_lacksB Tryd.underlying120 (by kernel_rfl) (by kernel_rfl) v xT w
theorem Tryd.unwrap111 (v : Value) (xT : TypeId) (w : World) : (Instr.typeAssert (.iface 86 v) xT 99 true).run Tryd.prog w = .ok (.tuple #[.iface 86 v, .bool true]) w := run_typeAssert_hasB Tryd.underlying99 (by kernel_rfl) v xT w
theorem Tryd.parts37 (a : Addr) (w : World) : (ReflectliteValue.parts (.agg #[.pointer (some ⟨1, 84, none⟩), .pointer (some a), .int .u64 150])).run Tryd.prog w = .ok (some (84, a, 150)) w := by kernel_rfl
theorem Tryd.isNil37 (a p : Addr) (W : World) (ha : W.cell? a = some (.pointer (some p))) :
    (ReflectliteValue.method (ReflectliteValue.valueError "reflectlite.Value.IsNil" 0) ReflectliteValue.isNil #[.agg #[.pointer (some ⟨1, 84, none⟩), .pointer (some a), .int .u64 150]]).run Tryd.prog W = .ok (.bool false) W := by
  rw [show ∀ z f v, ReflectliteValue.method z f #[v] = (ReflectliteValue.parts v >>= _) from fun _ _ _ => rfl]
  simp only [Sem.run_bind, Tryd.parts37, Result.andThen]
  simp [ReflectliteValue.isNil, loadVar, isAgg, underlying, Tryd.underlying84, ha, Result.andThen]
theorem Tryd.elemV37 (a p : Addr) (W : World) (ha : W.cell? a = some (.pointer (some p))) :
    (ReflectliteValue.method (ReflectliteValue.valueError "reflectlite.Value.Elem" 0) ReflectliteValue.elem #[.agg #[.pointer (some ⟨1, 84, none⟩), .pointer (some a), .int .u64 150]]).run Tryd.prog W
      = .ok (.agg #[.pointer (some ⟨1, 32, none⟩), .pointer (some p), .int .u64 386]) W := by
  rw [show ∀ z f v, ReflectliteValue.method z f #[v] = (ReflectliteValue.parts v >>= _) from fun _ _ _ => rfl]
  simp only [Sem.run_bind, Tryd.parts37, Result.andThen]
  simp [ReflectliteValue.elem, loadVar, isAgg, underlying, Tryd.underlying84, ha, Result.andThen, Tryd.elemOf37, Tryd.mk29]
theorem Tryd.parts29a (a : Addr) (w : World) : (ReflectliteValue.parts (.agg #[.pointer (some ⟨1, 32, none⟩), .pointer (some a), .int .u64 386])).run Tryd.prog w = .ok (some (32, a, 386)) w := by kernel_rfl
theorem Tryd.parts29 (a : Addr) (w : World) : (ReflectliteValue.parts (.agg #[.pointer (some ⟨1, 32, none⟩), .pointer (some a), .int .u64 130])).run Tryd.prog w = .ok (some (32, a, 130)) w := by kernel_rfl
theorem Tryd.set29 (ta b : Addr) (k : Int) (old : Value) (W : World) (hb : W.cell? b = some (.int .i64 k)) (ht : W.cell? ta = some old) (hf : W.frozen? ta = false) :
    (ReflectliteValue.set #[.agg #[.pointer (some ⟨1, 32, none⟩), .pointer (some ta), .int .u64 386], .agg #[.pointer (some ⟨1, 32, none⟩), .pointer (some b), .int .u64 130]]).run Tryd.prog W
      = .ok (.tuple #[]) (W.setCell ta (.int .i64 k)) := by
  rw [show ∀ v x, ReflectliteValue.set #[v, x] = (ReflectliteValue.parts v >>= fun p => ReflectliteValue.parts x >>= fun q => _) from fun _ _ => rfl]
  simp only [Sem.run_bind, Tryd.parts29a, Tryd.parts29, Result.andThen]
  simp [ReflectliteValue.flagAddr, loadVar, isAgg, underlying, Tryd.underlying32, hb, Result.andThen, Tryd.direct29, storeVar, Value.cells, storeCells, Addr.add]
  rw [run_store Tryd.prog W ta _ _ (by rfl)]
  simp [ht, hf]
end Go.Proofs.YtidhcmhheohciaaDoor
namespace Go.Proofs.YtidhcmhheohciaaDoor
open Go.RowKit Go.Extern.Stop Go.Stop Go.Extern
/-- the error value v is the number k, wrapped with the places ps -/
def ErrIs (w : World) : List Int → Value → Int → Prop
  | [], v, k => v = .iface 32 (.int .i64 k)
  | p :: ps, v, k => ∃ g u, v = .iface 86 (.pointer (some ⟨g, 0, none⟩)) ∧ w.heap[g]? = some (.cells #[.int .i64 p, u] 88 (0, 0)) ∧ ErrIs w ps u k
theorem ErrIs.keep {w w' : World} (h : ∀ (g : Nat) (c : Array Value), w.heap[g]? = some (Obj.cells c 88 (0, 0)) → w'.heap[g]? = w.heap[g]?) : ∀ {ps : List Int} {v : Value} {k : Int}, ErrIs w ps v k → ErrIs w' ps v k
  | [], _, _, e => e
  | _ :: _, _, _, ⟨g, u, e1, e2, e3⟩ => ⟨g, u, e1, (h g _ e2).trans e2, ErrIs.keep h e3⟩
theorem ErrIs.iface {w : World} : ∀ {ps : List Int} {v : Value} {k : Int}, ErrIs w ps v k → ∃ T x, v = .iface T x
  | [], _, _, e => ⟨_, _, e⟩
  | _ :: _, _, _, ⟨_, _, e, _⟩ => ⟨_, _, e⟩
theorem unwrap_any (g : Nat) (p u : Value) (w : World) (h : w.heap[g]? = some (.cells #[p, u] 88 (0, 0))) :
    Calls Tryd.prog 94 #[.pointer (some ⟨g, 0, none⟩)] w fun e w' => e = .returned u ∧ w' = w := by
  have hc : w.cell? ⟨g, 1, none⟩ = some u := by simp [World.cell?, h]
  clear h
  go_enter Tryd.func94, Tryd.ntmps94
  go_wp2
  go_ret
  exact ⟨rfl, rfl⟩
set_option maxRecDepth 100000 in
set_option maxHeartbeats 1000000 in
theorem as_any (ps : List Int) (v : Value) (k : Int) (t a : Addr) (old : Value) (w : World) (h : ErrIs w ps v k) (ha : w.cell? a = some (.pointer (some t))) (ht : w.cell? t = some old) (hf : w.frozen? t = false) :
    Calls Tryd.prog 68 #[v, .iface 84 (.pointer (some t)), .agg #[.pointer (some ⟨1, 84, none⟩), .pointer (some a), .int .u64 150], .iface 94 (.agg #[.pointer (some ⟨1, 32, none⟩)])] w fun e w' =>
      e = .returned (.bool true) ∧ ∃ w1, Fr (fun _ => False) w w1 ∧ w' = w1.setCell t (.int .i64 k) := by
  have h81 := @run_callFunc_extern Tryd.prog 54 _ ReflectliteType.typeOf Tryd.func54 (by kernel_rfl) (by kernel_rfl) (by kernel_rfl) (by kernel_rfl)
  have h152 := @run_callFunc_extern Tryd.prog 96 _ (ReflectliteType.relation "AssignableTo" ReflectliteType.assignableTo) Tryd.func96 (by kernel_rfl) (by kernel_rfl) (by kernel_rfl) (by kernel_rfl)
  have h106 := @run_callFunc_extern Tryd.prog 72 _ (ReflectliteValue.method (ReflectliteValue.valueError "reflectlite.Value.Elem" 0) ReflectliteValue.elem) Tryd.func72 (by kernel_rfl) (by kernel_rfl) (by kernel_rfl) (by kernel_rfl)
  have h107 := @run_callFunc_extern Tryd.prog 73 _ ReflectliteValue.set Tryd.func73 (by kernel_rfl) (by kernel_rfl) (by kernel_rfl) (by kernel_rfl)
  have h77 := @run_callFunc_extern Tryd.prog 65 _ (fun args => ReflectliteValue.unpack (args.getD 0 (.tuple #[]))) Tryd.func65 (by kernel_rfl) (by kernel_rfl) (by kernel_rfl) (by kernel_rfl)
  have mA := Tryd.methodAssignableTo
  have mU := Tryd.methodUnwrap
  have tP := Tryd.typeOf111
  have tE := Tryd.typeOf29
  have aP := Tryd.assignable111
  have aE := Tryd.assignable29
  have nA := Tryd.noAs111
  have uW := Tryd.unwrap111
  have vE := Tryd.valueOf29
  generalize hW : w.alloc (.cells #[.pointer (some ⟨1, 84, none⟩), .pointer (some a), .int .u64 150] 107) = W1
  have hlt := World.block_lt_of_cell? w t ht
  have hla := World.block_lt_of_cell? w a ha
  have hE : ErrIs W1 ps v k := h.keep (fun g c hg => by rw [← hW]; exact Below.heap_alloc w _ g (heap_lt hg))
  have hF : Fr (fun _ => False) w W1 := by rw [← hW]; exact (Fr.refl _ w).alloc _
  have ha1 : W1.cell? a = some (.pointer (some t)) := hF.cell ha (fun h => h)
  have ht1 : W1.cell? t = some old := hF.cell ht (fun h => h)
  have hf1 : W1.frozen? t = false := by rw [← hW, World.frozen?_alloc_old _ _ t (Nat.ne_of_lt hlt)]; exact hf
  have hlt1 := World.block_lt_of_cell? W1 t ht1
  have b0 : W1.cell? ⟨w.heap.size, 0, none⟩ = some (.pointer (some ⟨1, 84, none⟩)) := by rw [← hW]; simp
  have b1 : W1.cell? ⟨w.heap.size, 1, none⟩ = some (.pointer (some a)) := by rw [← hW]; simp
  have b2 : W1.cell? ⟨w.heap.size, 2, none⟩ = some (.int .u64 150) := by rw [← hW]; simp
  have el := Tryd.elemV37 a t W1 ha1
  have st := Tryd.set29 t ⟨W1.heap.size, 0, none⟩ k old (W1.alloc (.cells #[.int .i64 k] 32)) (by rw [World.cell?_alloc_at _ _ _ _ (by simp)]; rfl) (by rw [World.cell?_alloc_lt _ _ t hlt1]; exact ht1) (by rw [World.frozen?_alloc_old _ _ t (Nat.ne_of_lt hlt1)]; exact hf1)
  have HW : Hid (w.alloc (.cells #[.pointer (some ⟨1, 84, none⟩), .pointer (some a), .int .u64 150] 107) = W1) := hW
  have HE : Hid (ErrIs W1 ps v k) := hE
  clear h ha ht hf hE hlt hla
  go_enter Tryd.func68, Tryd.ntmps68
  go_wp2
  clear hW
  clear HW
  go_loopg [0] ps.length (fun n u wr => W1 = wr ∧ ∃ qs : List Int, n = qs.length ∧ Hid (ErrIs wr qs u k))
  case atStart => exact ⟨rfl, ps, rfl, HE⟩
  case round =>
    obtain ⟨rfl, qs, rfl, hq⟩ := hrel
    cases qs with
    | nil =>
      obtain rfl := hq.out
      go_wp2
      go_ret
      exact ⟨rfl, _, hF.alloc _, rfl⟩
    | cons p qs =>
      obtain ⟨g, u, rfl, hg, hu⟩ := hq.out
      have HG : Hid (W1.heap[g]? = some (.cells #[.int .i64 p, u] 88 (0, 0))) := hg
      have HQ : Hid (ErrIs W1 qs u k) := hu
      obtain ⟨T, x, rfl⟩ := hu.iface
      clear hg hu hq
      go_wp2_with (go_at_call 94; refine (unwrap_any g _ _ _ HG.out).mono ?_; rintro e w' ⟨rfl, rfl⟩)
      go_roundg qs.length
      case rel => exact ⟨rfl, qs, rfl, HQ⟩
      case measure => simp
end Go.Proofs.YtidhcmhheohciaaDoor
namespace Go.Proofs.YtidhcmhheohciaaDoor
open Go.RowKit Go.Extern.Stop Go.Stop Go.Extern
/-- package errors' errorType holds the handle of error -/
def Glob (w : World) : Prop := w.cell? ⟨0, 0, none⟩ = some (.iface 94 (.agg #[.pointer (some ⟨1, 27, none⟩)]))
theorem Glob.keep {S : Nat → Prop} {w w' : World} (h : Glob w) (f : Fr S w w') (h0 : ¬ S 0) : Glob w' := f.cell h h0
theorem Glob.lt {w : World} (h : Glob w) : 0 < w.heap.size := World.block_lt_of_cell? w _ h
set_option maxRecDepth 100000 in
set_option maxHeartbeats 1000000 in
theorem As_any (ps : List Int) (v : Value) (k : Int) (t : Addr) (old : Value) (w : World) (hG : Glob w) (h : ErrIs w ps v k) (ht : w.cell? t = some old) (hf : w.frozen? t = false) :
    Calls Tryd.prog 57 #[v, .iface 84 (.pointer (some t))] w fun e w' =>
      e = .returned (.bool true) ∧ ∃ w1, Fr (fun _ => False) w w1 ∧ w' = w1.setCell t (.int .i64 k) := by
  have h77 := @run_callFunc_extern Tryd.prog 65 _ (fun args => ReflectliteValue.unpack (args.getD 0 (.tuple #[]))) Tryd.func65 (by kernel_rfl) (by kernel_rfl) (by kernel_rfl) (by kernel_rfl)
  have h78 := @run_callFunc_extern Tryd.prog 66 _ (ReflectliteValue.methodAny (ReflectliteValue.valueError "reflectlite.Value.Type" 0) (fun t _ _ _ => ReflectliteType.toType t)) Tryd.func66 (by kernel_rfl) (by kernel_rfl) (by kernel_rfl) (by kernel_rfl)
  have h79 := @run_callFunc_extern Tryd.prog 67 _ (ReflectliteValue.method (ReflectliteValue.valueError "reflectlite.Value.IsNil" 0) ReflectliteValue.isNil) Tryd.func67 (by kernel_rfl) (by kernel_rfl) (by kernel_rfl) (by kernel_rfl)
  have h142 := @run_callFunc_extern Tryd.prog 89 _ (ReflectliteType.abiMethod fun t => do pure (.int .u8 (← Rtype.kind t))) Tryd.func89 (by kernel_rfl) (by kernel_rfl) (by kernel_rfl) (by kernel_rfl)
  have h154 := @run_callFunc_extern Tryd.prog 98 _ (ReflectliteType.method ReflectliteType.elem) Tryd.func98 (by kernel_rfl) (by kernel_rfl) (by kernel_rfl) (by kernel_rfl)
  have h155 := @run_callFunc_extern Tryd.prog 99 _ (ReflectliteType.relation "Implements" ReflectliteType.implements_) Tryd.func99 (by kernel_rfl) (by kernel_rfl) (by kernel_rfl) (by kernel_rfl)
  have f77 := Tryd.valueOf37
  have f78 := Tryd.type37
  have mK := Tryd.methodKind
  have mE := Tryd.methodElem
  have mI := Tryd.methodImplements
  have k37 := Tryd.kind37
  have k29 := Tryd.kind29
  have e37 := Tryd.elem37
  have i29 := Tryd.implements29
  have hlt := World.block_lt_of_cell? w t ht
  have hF : Fr (fun _ => False) w ((w.alloc (.cells #[.pointer (some t)] 84)).alloc (.cells #[.pointer (some ⟨1, 84, none⟩), .pointer (some ⟨w.heap.size, 0, none⟩), .int .u64 150] 107)) := ((Fr.refl _ w).alloc _).alloc _
  have n8 := Tryd.isNil37 ⟨w.heap.size, 0, none⟩ t ((w.alloc (.cells #[.pointer (some t)] 84)).alloc (.cells #[.pointer (some ⟨1, 84, none⟩), .pointer (some ⟨w.heap.size, 0, none⟩), .int .u64 150] 107)) (by simp)
  have hg2 : ((w.alloc (.cells #[.pointer (some t)] 84)).alloc (.cells #[.pointer (some ⟨1, 84, none⟩), .pointer (some ⟨w.heap.size, 0, none⟩), .int .u64 150] 107)).cell? ⟨0, 0, none⟩ = some (.iface 94 (.agg #[.pointer (some ⟨1, 27, none⟩)])) := hF.cell hG (fun h => h)
  obtain ⟨T, x, rfl⟩ := h.iface
  have C := as_any ps _ k t ⟨w.heap.size, 0, none⟩ old ((w.alloc (.cells #[.pointer (some t)] 84)).alloc (.cells #[.pointer (some ⟨1, 84, none⟩), .pointer (some ⟨w.heap.size, 0, none⟩), .int .u64 150] 107))
    (h.keep (fun g c hg => hF.block g (heap_lt hg) (fun h => h))) (by simp) (hF.cell ht (fun h => h)) (by rw [World.frozen?_alloc_old _ _ t (by simp; omega), World.frozen?_alloc_old _ _ t (Nat.ne_of_lt hlt)]; exact hf)
  have HC := C
  have HF : Hid (Fr (fun _ => False) w ((w.alloc (.cells #[.pointer (some t)] 84)).alloc (.cells #[.pointer (some ⟨1, 84, none⟩), .pointer (some ⟨w.heap.size, 0, none⟩), .int .u64 150] 107))) := hF
  clear hF C h ht hf
  go_enter Tryd.func57, Tryd.ntmps57
  go_wp2_with fail
  refine HC.mono ?_
  rintro e w' ⟨rfl, w1, hw1, rfl⟩
  clear HC n8 hg2
  go_wp2
  go_ret
  exact ⟨rfl, w1, HF.out.trans hw1, rfl⟩
theorem catch_idle (p : Addr) (w : World) :
    CallsD Tryd.prog 56 #[.pointer (some p)] .returning w fun e u' w' => e = .returned (.tuple #[]) ∧ u' = .returning ∧ w' = w := by
  refine callsD_of_wpS Tryd.func56 rfl fun c₀ cs hu => ?_
  apply wpS_seq
  apply wpS_region
  simp [wpOpsS, go_sem, recoverD, hu, Tryd.ntmps56, Exit.thenS]
  refine wpS_cond (t := false) (by simp [Act.eval, Array.replicate]) ?_
  simp only [Bool.false_eq_true, if_false]
  refine wpS_of_wp (wp_skip ?_)
  cases c₀
  simp_all [bodyPostS, results, Tryd.results56]
set_option maxRecDepth 100000 in
set_option maxHeartbeats 1000000 in
theorem kind_any (ps : List Int) (v : Value) (k : Int) (w : World) (hG : Glob w) (h : ErrIs w ps v k) :
    Calls Tryd.prog 39 #[v] w fun e w' => e = .returned (.int .i64 k) ∧ Fr (fun _ => False) w w' := by
  have hmf : ∀ (fn : Fn) (first cap : Array Value) (w : World), (Instr.makeFunc fn first cap).run Tryd.prog w = .ok (.func fn first cap) w := fun _ _ _ _ => rfl
  have hF : Fr (fun _ => False) w (w.alloc (.cells #[.int .i64 0] 32)) := (Fr.refl _ w).alloc _
  obtain ⟨T, x, rfl⟩ := h.iface
  have C := As_any ps _ k ⟨w.heap.size, 0, none⟩ (.int .i64 0) (w.alloc (.cells #[.int .i64 0] 32)) (hG.keep hF (fun h => h)) (h.keep (fun g c hg => hF.block g (heap_lt hg) (fun h => h))) (by simp) (by simp)
  clear h hG
  go_enter_defers Tryd.func39, Tryd.ntmps39
  go_wp2_with fail
  refine C.mono ?_
  rintro e w' ⟨rfl, w1, hw1, rfl⟩
  have hc1 : w1.cell? ⟨w.heap.size, 0, none⟩ = some (.int .i64 0) := hw1.cell (by simp) (fun h => h)
  have hz1 : w1.frozen? ⟨w.heap.size, 0, none⟩ = false := by
    rw [World.frozen?_of_block (w := w.alloc (.cells #[.int .i64 0] 32)) (hw1.block w.heap.size (by simp) (fun h => h))]; simp
  have HF : Hid (Fr (fun _ => False) w w1) := hF.trans hw1
  clear C hF hw1
  go_wp2
  refine leaves_cons (f := 56) (args := #[.pointer (some ⟨w.heap.size, 0, none⟩)]) (by simp) (by simp [go_sem]) ?_
  refine (catch_idle ⟨w.heap.size, 0, none⟩ _).mono ?_
  rintro e u' w'' ⟨rfl, rfl, rfl⟩
  have hF2 : Fr (fun _ => False) w ((w1.setCell ⟨w.heap.size, 0, none⟩ (.int .i64 k)).setCell ⟨w.heap.size, 0, none⟩ (.int .i64 k)) := (HF.out.setCell _ (fun h => absurd h (Nat.lt_irrefl _)) _).setCell _ (fun h => absurd h (Nat.lt_irrefl _)) _
  simp [Leaves, settle, results, Tryd.results39, go_sem, hc1]
  exact hF2
end Go.Proofs.YtidhcmhheohciaaDoor
namespace Go.Proofs.YtidhcmhheohciaaDoor
open Go.RowKit
/-- v wraps u with the places ps, the first one outermost -/
def Wraps (w : World) : List Int → Value → Value → Prop
  | [], v, u => v = u
  | p :: ps, v, u => ∃ g x, v = .iface 86 (.pointer (some ⟨g, 0, none⟩)) ∧ w.heap[g]? = some (Obj.cells #[.int .i64 p, x] 88 (0, 0)) ∧ Wraps w ps x u
theorem Wraps.err {w : World} : ∀ {ps : List Int} {v : Value} {k : Int}, Wraps w ps v (.iface 32 (.int .i64 k)) → ErrIs w ps v k
  | [], _, _, e => e
  | _ :: _, _, _, ⟨g, u, e1, e2, e3⟩ => ⟨g, u, e1, e2, Wraps.err e3⟩
theorem Wraps.keep {w w' : World} (h : ∀ (g : Nat) (c : Array Value), w.heap[g]? = some (Obj.cells c 88 (0, 0)) → w'.heap[g]? = w.heap[g]?) : ∀ {ps : List Int} {v u : Value}, Wraps w ps v u → Wraps w' ps v u
  | [], _, _, e => e
  | _ :: _, _, _, ⟨g, u, e1, e2, e3⟩ => ⟨g, u, e1, (h g _ e2).trans e2, Wraps.keep h e3⟩
theorem Wraps.iface {w : World} {T : TypeId} {x : Value} : ∀ {ps : List Int} {v : Value}, Wraps w ps v (.iface T x) → ∃ T x, v = .iface T x
  | [], _, e => ⟨_, _, e⟩
  | _ :: _, _, ⟨_, _, e, _⟩ => ⟨_, _, e⟩
/-- the values vs can be read at the slice that begins at a -/
def Row (w : World) (a : Option Addr) (vs : List Value) : Prop :=
  (a = none ∧ vs = []) ∨ ∃ x, a = some x ∧ ∀ j u, vs[j]? = some u → w.cell? (x.add j) = some u
theorem Row.keep {S : Nat → Prop} {w w' : World} {a : Option Addr} {vs : List Value} (h : Row w a vs) (f : Fr S w w') (hs : ∀ x, a = some x → ¬ S x.block) : Row w' a vs := by
  rcases h with h | ⟨x, rfl, h⟩
  · exact .inl h
  · exact .inr ⟨x, rfl, fun j u hj => f.cell (h j u hj) (by unfold Addr.add; split <;> exact hs x rfl)⟩
def W64 (ps : List Int) : List Value := ps.map (Value.int .i64)
theorem Row.at {w : World} {a : Option Addr} {vs : List Value} (h : Row w a vs) {j : Nat} {u : Value} (hj : vs[j]? = some u) : ∃ b o, a = some ⟨b, o, none⟩ ∧ w.cell? ⟨b, o + j, none⟩ = some u := by
  rcases h with ⟨-, rfl⟩ | ⟨x, rfl, h⟩
  · simp at hj
  · obtain ⟨b, o, s⟩ := x
    have hc := h j u hj
    have h0 : ∃ u0, vs[0]? = some u0 := by
      cases vs with
      | nil => simp at hj
      | cons y ys => exact ⟨y, rfl⟩
    obtain ⟨u0, hu0⟩ := h0
    have hs : s = none := by simpa [Addr.add] using World.cell?_spot (h 0 u0 hu0)
    subst hs
    refine ⟨b, o, rfl, ?_⟩
    by_cases hz : j = 0
    · subst hz; simpa [Addr.add] using hc
    · simpa [Addr.add, hz] using hc
theorem wraps_push {w : World} {p : Int} {ps : List Int} {v u : Value} (h : Wraps w ps v u) :
    Wraps (w.alloc (.cells #[.int .i64 p, v] 88)) (p :: ps) (.iface 86 (.pointer (some ⟨w.heap.size, 0, none⟩))) u :=
  ⟨w.heap.size, v, rfl, heap_alloc_new w _, h.keep (fun g _ hg => Below.heap_alloc w _ g (heap_lt hg))⟩
set_option maxRecDepth 100000 in
set_option maxHeartbeats 1000000 in
theorem at_any (ps : List Int) (T : TypeId) (x : Value) (a : Option Addr) (c : Nat) (w : World) (hr : Row w a (W64 ps)) (hl : ps.length ≤ 140737488355328) :
    Calls Tryd.prog 43 #[.iface T x, .slice a ps.length c] w fun e w' => ∃ v, e = .returned v ∧ Wraps w' ps v (.iface T x) ∧ Fr (fun _ => False) w w' := by
  have HR : Hid (Row w a (W64 ps)) := hr
  clear hr
  go_enter Tryd.func43, Tryd.ntmps43
  go_wp2
  go_loopg [0, 5] ps.length (fun n t i wr => n ≤ ps.length ∧ (n = 0 → i = .int .i64 (-1)) ∧ (∀ m : Nat, n = m + 1 → i = .int .i64 m) ∧ Hid (Wraps wr (ps.drop n) t (.iface T x) ∧ Fr (fun _ => False) w wr))
  case atStart => exact ⟨Nat.le_refl _, fun h => by simp [h], fun m h => by simp [h], by unfold Hid; exact ⟨by simp [Wraps], Fr.refl _ _⟩⟩
  case round =>
    obtain ⟨hn, h0, h1, hw⟩ := hrel
    cases gk with
    | zero =>
      obtain rfl := h0 rfl
      clear h0 h1
      go_wp2
      go_ret
      exact ⟨_, rfl, by simpa using hw.out.1, hw.out.2⟩
    | succ m =>
      obtain rfl := h1 m rfl
      clear h0 h1
      have hp : (W64 ps)[m]? = some (.int .i64 (ps.getD m 0)) := by
        have : m < ps.length := by omega
        simp [W64, this]
      obtain ⟨b, o, rfl, hc⟩ := (HR.out.keep hw.out.2 (fun _ _ h => h)).at hp
      have hm : (m : Int) < ps.length := by omega
      have HD : Hid (ps.drop m = ps.getD m 0 :: ps.drop (m + 1)) := by
        have : m < ps.length := by omega
        unfold Hid
        rw [List.drop_eq_getElem_cons this]
        simp [this]
      generalize ps.getD m 0 = p at *
      obtain ⟨T0, x0, rfl⟩ := hw.out.1.iface
      clear hp
      go_wp2
      go_roundg m
      case rel =>
        refine ⟨by omega, fun h => by subst h; rfl, fun j h => by subst h; go_num, ?_, ?_⟩
        · rw [HD.out]; exact wraps_push hw.out.1
        · exact hw.out.2.alloc _
      case measure => simp
end Go.Proofs.YtidhcmhheohciaaDoor
namespace Go.Proofs.YtidhcmhheohciaaDoor
open Go.RowKit
theorem Tryd.info5 : (Tryd.prog.info? 5).map (fun i => (i.zero, i.size, i.bytes)) = some (some (.int .u8 0), 1, 1) := by kernel_rfl
/-- the Writer at block g holds the bytes bs, in a row of its own at block r -/
structure Wtr (w : World) (g : Nat) (r : Option Nat) (bs : List UInt8) : Prop where
  is : ∃ v, w.heap[g]? = some (.cells #[v] 55 (0, 0)) ∧ v.ownBlock = r ∧ r ≠ some g ∧ w.ownsRow 0 5 1 v bs.length (B8 bs)
/-- how a Writer's call leaves the world -/
def WStep (w w' : World) (g : Nat) (r : Option Nat) (bs : List UInt8) : Prop :=
  ∃ r', Wtr w' g r' bs ∧ Fr (fun k => k = g ∨ some k = r) w w' ∧ (r' = r ∨ ∃ k, r' = some k ∧ w.heap.size ≤ k)
/-- a row stayed where it was, or went into a new block -/
def RowTo (w : World) (r r' : Option Nat) : Prop := r' = r ∨ ∃ k, r' = some k ∧ w.heap.size ≤ k
theorem WStep.go {a b c : World} {g : Nat} {r r1 : Option Nat} {cs : List UInt8} (f1 : Fr (fun k => k = g ∨ some k = r) a b) (h1 : RowTo a r r1) (h : WStep b c g r1 cs) : WStep a c g r cs := by
  obtain ⟨r2, w2, f2, h2⟩ := h
  refine ⟨r2, w2, f1.trans' f2 (fun _ _ h => h) ?_, ?_⟩
  · rintro j hj (rfl | hr)
    · exact .inl rfl
    · rcases h1 with rfl | ⟨k, rfl, hk⟩
      · exact .inr hr
      · cases hr; omega
  · rcases h2 with rfl | ⟨k, rfl, hk⟩
    · exact h1
    · exact .inr ⟨k, rfl, Nat.le_trans f1.size hk⟩
theorem WStep.trans {a b c : World} {g : Nat} {r : Option Nat} {bs cs : List UInt8} (h : WStep a b g r bs) (k : ∀ r', Wtr b g r' bs → WStep b c g r' cs) : WStep a c g r cs := by
  obtain ⟨r1, w1, f1, h1⟩ := h
  exact WStep.go f1 h1 (k r1 w1)
theorem setCell_heap_one {w : World} {g : Nat} {v u : Value} {T : TypeId} {fr : Nat × Nat} (h : w.heap[g]? = some (.cells #[v] T fr)) : (w.setCell ⟨g, 0, none⟩ u).heap[g]? = some (.cells #[u] T fr) := by
  simp [World.setCell, Array.getElem?_modify, h]
/-- the store behind an append: one step -/
theorem wtr_store {w w0 w1 : World} {g : Nat} {v v' : Value} {cs : List UInt8} (hg : w.heap[g]? = some (.cells #[v] 55 (0, 0))) (hne : v.ownBlock ≠ some g)
    (h0 : Fr (fun _ => False) w w0) (hgr : w0.grownBy w1 v.ownBlock) (hown' : w1.ownsRow 0 5 1 v' cs.length (B8 cs)) (S : Nat) (hS : S = w0.heap.size) (hv' : v'.ownBlock = v.ownBlock ∨ v'.ownBlock = some S) :
    WStep w (w1.setCell ⟨g, 0, none⟩ v') g v.ownBlock cs := by
  subst hS
  have hgl := heap_lt hg
  have hs0 := h0.size
  have f1 : Fr (fun k => k = g ∨ some k = v.ownBlock) w w1 := (h0.mono (fun _ _ h => h.elim)).grown hgr (fun k hk _ => .inr hk.symm)
  have hg0 := h0.heap hg (fun h => h)
  have hg1 : w1.heap[g]? = some (.cells #[v] 55 (0, 0)) := (hgr.block g (heap_lt hg0) (fun e => hne e.symm)).trans hg0
  have hne' : v'.ownBlock ≠ some g := by
    rcases hv' with h | h
    · rw [h]; exact hne
    · rw [h]; intro e; cases e; omega
  refine ⟨v'.ownBlock, ⟨v', setCell_heap_one hg1, rfl, hne', ?_⟩, f1.setCell _ (fun _ => .inl rfl) _, ?_⟩
  · exact ownsRow_heap hown' (fun k hk => Below.heap_setCell _ _ _ _ (fun e => hne' (by rw [hk]; exact congrArg some e)))
  · rcases hv' with h | h
    · exact .inl h
    · exact .inr ⟨_, h, hs0⟩
/-- behind an append onto a Writer's row, ahead of the store -/
theorem wtr_after {w w0 w1 : World} {g n : Nat} {v : Value} {cs : List UInt8} {a' : Option Addr} {c' S : Nat} {xs : List Value} (hg : w.heap[g]? = some (.cells #[v] 55 (0, 0))) (hne : v.ownBlock ≠ some g)
    (h0 : Fr (fun _ => False) w w0) (hgr : w0.grownBy w1 v.ownBlock) (hn : n = cs.length) (hx : xs = B8 cs) (hown' : w1.ownsRow 0 5 1 (.slice a' n c') n xs) (hS : S = w0.heap.size)
    (hwh : (Value.slice a' n c').ownBlock = v.ownBlock ∨ (Value.slice a' n c').ownBlock = some S) :
    w1.cell? ⟨g, 0, none⟩ = some v ∧ w1.frozen? ⟨g, 0, none⟩ = false ∧ Hid (WStep w (w1.setCell ⟨g, 0, none⟩ (.slice a' n c')) g v.ownBlock cs) := by
  subst hn
  subst hx
  have hg0 := h0.heap hg (fun h => h)
  have hg1 : w1.heap[g]? = some (.cells #[v] 55 (0, 0)) := (hgr.block g (heap_lt hg0) (fun e => hne e.symm)).trans hg0
  exact ⟨by simp [World.cell?, hg1], by simp [World.frozen?, hg1], wtr_store hg hne h0 hgr hown' S hS hwh⟩
theorem wtr_one (bs : List UInt8) (x : Int) (u : UInt8) (h : x = u.toNat) : B8 bs ++ [.int .u8 x] = B8 (bs ++ [u]) := by rw [B8_append, h]; rfl
theorem one_cell (x : Int) : ∀ u ∈ [Value.int .u8 x], u.oneCell' = true := by intro u hu; simp at hu; subst hu; rfl
theorem new_any (w : World) :
    Calls Tryd.prog 8 #[] w fun e w' => e = .returned (.pointer (some ⟨w.heap.size, 0, none⟩)) ∧ w' = w.alloc (.cells #[.slice none 0 0] 55) := by
  go_enter Tryd.func8, Tryd.ntmps8
  go_wp2
  go_ret
  exact ⟨rfl, rfl⟩
theorem wtr_new (w : World) : Wtr (w.alloc (.cells #[.slice none 0 0] 55)) w.heap.size none [] :=
  ⟨_, heap_alloc_new w _, rfl, by simp, World.ownsRow_nil _ _ _ _⟩
set_option maxRecDepth 100000 in
set_option maxHeartbeats 400000 in
theorem byte_any (g : Nat) (r : Option Nat) (bs : List UInt8) (c : Int) (u : UInt8) (hu : c = u.toNat) (w : World) (h : Wtr w g r bs) (hl : Hid (bs.length ≤ 1000000000)) :
    Calls Tryd.prog 31 #[.pointer (some ⟨g, 0, none⟩), .int .u8 c] w fun e w' => e = .returned (.tuple #[]) ∧ WStep w w' g r (bs ++ [u]) := by
  obtain ⟨v, hg, rfl, hne, hown⟩ := h
  have hcell : w.cell? ⟨g, 0, none⟩ = some v := by simp [World.cell?, hg]
  have hgl := heap_lt hg
  have HU : Hid (c = u.toNat) := hu
  clear hu
  obtain ⟨i0, hi, hz0, hz1, hz2⟩ := info_parts Tryd.info5
  go_enter Tryd.func31, Tryd.ntmps31
  go_wp2_with (at_builtin; refine wpList_append_where _ rfl (.tmp 10) (.tmp 12) 33 rfl 5 i0 (.int .u8 0) 1 1 Tryd.underlying33 hi hz0 hz1 hz2 rfl (by decide) v bs.length (B8 bs) rfl (hown.alloc _) ⟨w.heap.size, 0, none⟩ 1 1 [.int .u8 c] rfl rfl ?c1 ?c2 ?c3 ?c4 ?_)
  case c1 => exact cell_one_new _ _ _
  case c2 => intro u hu; simp at hu; subst hu; rfl
  case c3 => unfold maxLen; have := hl.out; omega
  case c4 => have := hl.out; omega
  intro a' c' w1 hown' hgrow hwh
  obtain ⟨hcell1, hfro1, R⟩ := wtr_after hg hne ((Fr.refl _ w).alloc _) hgrow (by simp) (wtr_one bs c u HU.out) hown' (by simp) hwh
  clear hi hgrow hown hown' hg hwh
  go_wp2
  go_end0
  exact ⟨rfl, R⟩
end Go.Proofs.YtidhcmhheohciaaDoor
namespace Go.Proofs.YtidhcmhheohciaaDoor
open Go.RowKit
/-- a number's bytes, with fuel -/
def lebF : Nat → Nat → List UInt8
  | 0, n => [UInt8.ofNat n]
  | f + 1, n => if n < 128 then [UInt8.ofNat n] else UInt8.ofNat (n % 128 + 128) :: lebF f (n / 128)
theorem lebF_small (f n : Nat) (h : n < 128) : lebF f n = [UInt8.ofNat n] := by
  cases f with
  | zero => rfl
  | succ f => simp [lebF, h]
theorem lebF_big (f n : Nat) (h : 128 ≤ n) : lebF (f + 1) n = UInt8.ofNat (n % 128 + 128) :: lebF f (n / 128) := by
  have : ¬ n < 128 := by omega
  simp [lebF, this]
theorem lebF_length (f n : Nat) : 1 ≤ (lebF f n).length ∧ (lebF f n).length ≤ f + 1 := by
  induction f generalizing n with
  | zero => simp [lebF]
  | succ f ih =>
    have := ih (n / 128)
    by_cases h : n < 128
    · simp [lebF, h]
    · simp [lebF, h]; omega
/-- what holds at a round's head -/
def lebRel (n m f : Nat) (acc : List UInt8) : Prop := m < 128 ^ (f + 1) ∧ acc ++ lebF f m = lebF 9 n ∧ acc.length + f = 9
theorem lebRel_start (n : Nat) (h : n < 18446744073709551616) : lebRel n n 9 [] := ⟨by omega, by simp, by simp⟩
theorem lebRel_step {n m f : Nat} {acc : List UInt8} (h : lebRel n m f acc) (hm : 128 ≤ m) : ∃ f', f = f' + 1 ∧ lebRel n (m / 128) f' (acc ++ [UInt8.ofNat (m % 128 + 128)]) := by
  obtain ⟨h1, h2, h3⟩ := h
  cases f with
  | zero => simp at h1; omega
  | succ f =>
    refine ⟨f, rfl, ?_, ?_, ?_⟩
    · rw [Nat.pow_succ] at h1
      exact Nat.div_lt_of_lt_mul (by rw [Nat.mul_comm]; exact h1)
    · rw [lebF_big f m hm] at h2
      simpa using h2
    · simp; omega
theorem lebRel_end {n m f : Nat} {acc : List UInt8} (h : lebRel n m f acc) (hm : m < 128) : acc ++ [UInt8.ofNat m] = lebF 9 n := by
  rw [← h.2.1, lebF_small f m hm]
theorem or128_fin : ∀ x : Fin 256, bits BinOp.or IntKind.u8 (x.val : Int) 128 = ((UInt8.ofNat (x.val % 128 + 128)).toNat : Int) := by decide +kernel
theorem or128 (m : Nat) : bits BinOp.or IntKind.u8 ((m : Int) % 256) 128 = ((UInt8.ofNat (m % 128 + 128)).toNat : Int) := by
  have h := or128_fin ⟨m % 256, Nat.mod_lt _ (by decide)⟩
  have e1 : ((m : Int) % 256) = ((m % 256 : Nat) : Int) := by omega
  rw [e1, h]
  have e2 : m % 256 % 128 = m % 128 := by omega
  simp only [e2]
theorem low8 (m : Nat) (h : m < 128) : (m : Int) = ((UInt8.ofNat m).toNat : Int) := by
  rw [UInt8.toNat_ofNat_of_lt' (by omega : m < 256)]
set_option maxRecDepth 100000 in
set_option maxHeartbeats 400000 in
theorem uint_any (g : Nat) (r : Option Nat) (bs : List UInt8) (n : Nat) (w : World) (h : Wtr w g r bs) (hn : n < 18446744073709551616) (hl : bs.length ≤ 100000000) :
    Calls Tryd.prog 52 #[.pointer (some ⟨g, 0, none⟩), .int .u64 n] w fun e w' => e = .returned (.tuple #[]) ∧ WStep w w' g r (bs ++ lebF 9 n) := by
  have HST : Hid (WStep w w g r (bs ++ []) ∧ lebRel n n 9 []) := ⟨⟨r, by simpa using h, Fr.refl _ _, .inl rfl⟩, lebRel_start n hn⟩
  have HL : Hid (bs.length ≤ 100000000) := hl
  clear h hn hl
  go_enter Tryd.func52, Tryd.ntmps52
  go_wp2
  go_loopw [1] (fun t wr => ∃ (m f : Nat) (acc : List UInt8), t = .int .u64 m ∧ Hid (WStep w wr g r (bs ++ acc) ∧ lebRel n m f acc)) (fun t _ => (intOf t).toNat)
  case atStart => exact ⟨n, 9, [], rfl, HST⟩
  case round =>
    obtain ⟨m, f, acc, rfl, HS⟩ := hrel
    obtain ⟨⟨r1, ⟨v, hg, rfl, hne, hown⟩, fr1, hr1⟩, -⟩ := HS.out
    have hcell : wr.cell? ⟨g, 0, none⟩ = some v := by simp [World.cell?, hg]
    have hgl := heap_lt hg
    have HB : Hid ((bs ++ acc).length ≤ 100000009) := by have := HL.out; have h2 := HS.out.2.2.2; have : (bs ++ acc).length = bs.length + acc.length := by simp
                                                         unfold Hid; omega
    generalize hbs : bs ++ acc = b1 at *
    have HBS : Hid (bs ++ acc = b1) := hbs
    have HF : Hid (Fr (fun k => k = g ∨ some k = r) w wr ∧ RowTo w r v.ownBlock) := ⟨fr1, hr1⟩
    clear hbs fr1 hr1 HST
    obtain ⟨i0, hi, hz0, hz1, hz2⟩ := info_parts Tryd.info5
    by_cases hlt : (128 : Int) ≤ m
    · go_wp2_with (at_builtin; refine wpList_append_where _ rfl (.tmp 12) (.tmp 16) 33 rfl 5 i0 (.int .u8 0) 1 1 Tryd.underlying33 hi hz0 hz1 hz2 rfl (by decide) v b1.length (B8 b1) rfl (hown.alloc _) ⟨wr.heap.size, 0, none⟩ 1 1 [.int .u8 (bits BinOp.or IntKind.u8 (↑m % 256) 128)] rfl rfl ?c1 ?c2 ?c3 ?c4 ?_)
      case c1 => exact cell_one_new _ _ _
      case c2 => exact one_cell _
      case c3 => unfold maxLen; have := HB.out; omega
      case c4 => have := HB.out; omega
      intro a' c' w1 hown' hgrow hwh
      obtain ⟨hcell1, hfro1, R⟩ := wtr_after hg hne ((Fr.refl _ wr).alloc _) hgrow (by simp) (wtr_one b1 _ _ (or128 m)) hown' (by simp) hwh
      clear hi hgrow hown hown' hg hwh
      go_wp2
      go_roundw
      case rel =>
        obtain ⟨f', -, hf⟩ := lebRel_step HS.out.2 (by omega)
        exact ⟨m / 128, f', acc ++ [UInt8.ofNat (m % 128 + 128)], by go_num, ⟨by rw [← List.append_assoc, HBS.out]; exact WStep.go HF.out.1 HF.out.2 R, hf⟩⟩
      case measure => simp [intOf]; omega
    · go_wp2_with (at_builtin; refine wpList_append_where _ rfl (.tmp 26) (.tmp 29) 33 rfl 5 i0 (.int .u8 0) 1 1 Tryd.underlying33 hi hz0 hz1 hz2 rfl (by decide) v b1.length (B8 b1) rfl (hown.alloc _) ⟨wr.heap.size, 0, none⟩ 1 1 [.int .u8 ↑m] rfl rfl (cell_one_new _ _ _) (one_cell _) ?c3 ?c4 ?_)
      case c3 => unfold maxLen; have := HB.out; omega
      case c4 => have := HB.out; omega
      intro a' c' w1 hown' hgrow hwh
      obtain ⟨hcell1, hfro1, R⟩ := wtr_after hg hne ((Fr.refl _ wr).alloc _) hgrow (by simp) (wtr_one b1 _ _ (low8 m (by omega))) hown' (by simp) hwh
      clear hi hgrow hown hown' hg hwh
      go_wp2
      go_end0
      refine ⟨rfl, ?_⟩
      rw [← lebRel_end HS.out.2 (by omega), ← List.append_assoc, HBS.out]
      exact WStep.go HF.out.1 HF.out.2 R
end Go.Proofs.YtidhcmhheohciaaDoor
namespace Go.Proofs.YtidhcmhheohciaaDoor
open Go.RowKit
/-- the bytes xs can be read at the slice that begins at a -/
def Bs (w : World) (a : Option Addr) (xs : List UInt8) : Prop :=
  (a = none ∧ xs = []) ∨ ∃ x, a = some x ∧ ∀ j u, (B8 xs)[j]? = some u → w.cell? (x.add j) = some u
def zerosObj (n : Nat) : Obj := .cells (madeCells #[.int .u8 0] n) 5
def rowObj (xs : List UInt8) : Obj := .cells (B8 xs).toArray 5
theorem b8_one (xs : List UInt8) : ∀ u ∈ B8 xs, u.oneCell' = true := by
  intro u hu; simp [B8] at hu; obtain ⟨x, _, rfl⟩ := hu; rfl
theorem setRow_alloc (w : World) (c d : Array Value) : (w.alloc (.cells c 5)).setRow w.heap.size d = w.alloc (.cells d 5) := by
  unfold World.setRow World.alloc
  have e : (w.heap.push (.cells c 5)).modify w.heap.size (fun | .cells _ t fr => .cells d t fr | o => o) = w.heap.push (.cells d 5) := by
    apply Array.ext_getElem?
    intro i
    rw [Array.getElem?_modify]
    by_cases h : i = w.heap.size
    · subst h; simp
    · simp [Array.getElem?_push, h, Ne.symm h]
  exact congrArg (fun h => ({ w with heap := h } : World)) e
set_option maxRecDepth 100000 in
theorem copied_copy (w : World) (ty : TypeId) (a : Option Addr) (c : Nat) (xs : List UInt8) (h : Bs w a xs) :
    (Builtin.copy_ #[33, 33] ty #[.slice (some ⟨w.heap.size, 0, none⟩) xs.length xs.length, .slice a xs.length c]).run Tryd.prog (w.alloc (zerosObj xs.length)) = .ok (goInt xs.length) (w.alloc (rowObj xs)) := by
  have hs : (Tryd.prog.info? 5).map (·.size) = some 1 := by
    obtain ⟨i0, hi, hz0, hz1, hz2⟩ := info_parts Tryd.info5
    simp [hi, hz1]
  rcases h with ⟨rfl, rfl⟩ | ⟨x, rfl, h⟩
  · have := run_copy_none (P := Tryd.prog) (w.alloc (zerosObj 0)) 33 33 ty 5 (some ⟨w.heap.size, 0, none⟩) none 0 0 0 c Tryd.underlying33 hs rfl
    have e : zerosObj 0 = rowObj [] := by simp [zerosObj, rowObj, madeCells, B8]
    rw [e] at this
    rw [show (List.length ([] : List UInt8)) = 0 from rfl, e]
    exact this
  · have hz : (w.alloc (zerosObj xs.length)).heap[w.heap.size]? = some (.cells (madeCells #[.int .u8 0] xs.length) 5 (0, 0)) := heap_alloc_new w _
    have hsrc : ∀ j v, (B8 xs)[j]? = some v → (w.alloc (zerosObj xs.length)).cell? (x.add j) = some v := by
      intro j v hj
      have h0 := h j v hj
      rw [World.cell?_alloc_lt _ _ _ (World.block_lt_of_cell? _ _ h0)]
      exact h0
    have := run_copy_row (P := Tryd.prog) (w.alloc (zerosObj xs.length)) 33 33 ty 5 w.heap.size 0 xs.length xs.length x xs.length c _ 5 (B8 xs) Tryd.underlying33 hs hz (by rw [B8_length]; exact (Nat.min_self _).symm) hsrc (by rw [B8_length, size_madeCells]; omega) (b8_one xs)
    rw [B8_length] at this
    rw [this]
    have e : (List.take 0 (madeCells #[Value.int .u8 0] xs.length).toList ++ B8 xs ++ List.drop (0 + xs.length) (madeCells #[Value.int .u8 0] xs.length).toList) = B8 xs := by
      rw [List.drop_eq_nil_of_le (by simp [size_madeCells])]; simp
    rw [e]
    exact congrArg _ (setRow_alloc w _ _)
set_option maxRecDepth 100000 in
set_option maxHeartbeats 400000 in
theorem copied_any (a : Option Addr) (c : Nat) (xs : List UInt8) (w : World) (h : Bs w a xs) (hl : xs.length ≤ 140737488355328) :
    Calls Tryd.prog 40 #[.slice a xs.length c] w fun e w' => e = .returned (.slice (some ⟨w.heap.size, 0, none⟩) xs.length xs.length) ∧ w' = w.alloc (rowObj xs) := by
  obtain ⟨i0, hi, hz0, hz1, hz2⟩ := info_parts Tryd.info5
  have hmk : (Instr.makeSlice 33 (.int .i64 xs.length) (.int .i64 xs.length)).run Tryd.prog w = .ok (.slice (some ⟨w.heap.size, 0, none⟩) xs.length xs.length) (w.alloc (zerosObj xs.length)) := by
    have := run_make (P := Tryd.prog) w 33 5 i0 (.int .u8 0) Tryd.underlying33 hi hz0 .i64 .i64 xs.length xs.length (by omega) (by omega) (by rw [hz2]; omega) (by omega)
    rw [hz1, Nat.mul_one, Int.toNat_natCast] at this
    exact this
  have hcp := fun ty => copied_copy w ty a c xs h
  clear hi hz0 hz1 hz2 h hl
  go_enter Tryd.func40, Tryd.ntmps40
  go_wp2
  go_ret
  exact ⟨rfl, rfl⟩
end Go.Proofs.YtidhcmhheohciaaDoor
namespace Go.Proofs.YtidhcmhheohciaaDoor
open Go.RowKit
/-- the Reader at block g: of the bytes bs (in block rb), at place p, up to place q -/
structure Rdr (w : World) (g rb : Nat) (bs : List UInt8) (p q : Nat) : Prop where
  obj : w.heap[g]? = some (Obj.cells #[.slice (some ⟨rb, 0, none⟩) bs.length bs.length, .int .i64 (p : Int), .int .i64 (q : Int)] 68 (0, 0))
  row : w.heap[rb]? = some (rowObj bs)
  pq : p ≤ q
  qb : q ≤ bs.length
  len : bs.length ≤ 140737488355328
theorem Rdr.keep {S : Nat → Prop} {w w' : World} {g rb : Nat} {bs : List UInt8} {p q : Nat} (h : Rdr w g rb bs p q) (f : Fr S w w') (h1 : ¬ S g) (h2 : ¬ S rb) : Rdr w' g rb bs p q :=
  ⟨f.heap h.obj h1, f.heap h.row h2, h.pq, h.qb, h.len⟩
theorem Rdr.c0 {w : World} {g rb : Nat} {bs : List UInt8} {p q : Nat} (h : Rdr w g rb bs p q) : w.cell? ⟨g, 0, none⟩ = some (.slice (some ⟨rb, 0, none⟩) bs.length bs.length) := by simp [World.cell?, h.obj]
theorem Rdr.c1 {w : World} {g rb : Nat} {bs : List UInt8} {p q : Nat} (h : Rdr w g rb bs p q) : w.cell? ⟨g, 1, none⟩ = some (.int .i64 (p : Int)) := by simp [World.cell?, h.obj]
theorem Rdr.c2 {w : World} {g rb : Nat} {bs : List UInt8} {p q : Nat} (h : Rdr w g rb bs p q) : w.cell? ⟨g, 2, none⟩ = some (.int .i64 (q : Int)) := by simp [World.cell?, h.obj]
theorem Rdr.fz {w : World} {g rb : Nat} {bs : List UInt8} {p q : Nat} (h : Rdr w g rb bs p q) (o : Nat) : w.frozen? ⟨g, o, none⟩ = false := by simp [World.frozen?, h.obj]
def rdrObj (rb : Nat) (bs : List UInt8) (p q : Nat) : Obj := .cells #[.slice (some ⟨rb, 0, none⟩) bs.length bs.length, .int .i64 (p : Int), .int .i64 (q : Int)] 68
set_option maxRecDepth 100000 in
set_option maxHeartbeats 400000 in
theorem read_any (a : Option Addr) (c : Nat) (xs : List UInt8) (w : World) (h : Bs w a xs) (hl : xs.length ≤ 140737488355328) :
    Calls Tryd.prog 18 #[.slice a xs.length c] w fun e w' => e = .returned (.pointer (some ⟨w.heap.size + 1, 0, none⟩)) ∧ w' = (w.alloc (rowObj xs)).alloc (rdrObj w.heap.size xs 0 xs.length) := by
  have C := copied_any a c xs w h hl
  clear h hl
  go_enter Tryd.func18, Tryd.ntmps18
  go_wp2_with fail
  refine C.mono ?_
  rintro e w' ⟨rfl, rfl⟩
  clear C
  go_wp2
  go_ret
  refine ⟨rfl, ?_⟩
  rfl
theorem rdr_new (xs : List UInt8) (w : World) (hl : xs.length ≤ 140737488355328) : Rdr ((w.alloc (rowObj xs)).alloc (rdrObj w.heap.size xs 0 xs.length)) (w.heap.size + 1) w.heap.size xs 0 xs.length := by
  have h1 := heap_alloc_new (w.alloc (rowObj xs)) (rdrObj w.heap.size xs 0 xs.length)
  rw [World.size_alloc] at h1
  exact ⟨h1, (Below.heap_alloc _ _ _ (by simp)).trans (heap_alloc_new w _), Nat.zero_le _, Nat.le_refl _, hl⟩
theorem rat_any (g rb : Nat) (bs : List UInt8) (p q : Nat) (w : World) (h : Rdr w g rb bs p q) :
    Calls Tryd.prog 44 #[.pointer (some ⟨g, 0, none⟩)] w fun e w' => e = .returned (.int .i64 (p : Int)) ∧ w = w' := by
  have c1 := h.c1
  clear h
  go_enter Tryd.func44, Tryd.ntmps44
  go_wp2
  go_ret
  exact ⟨rfl, rfl⟩
set_option maxRecDepth 100000 in
set_option maxHeartbeats 400000 in
theorem left_any (g rb : Nat) (bs : List UInt8) (p q : Nat) (w : World) (h : Rdr w g rb bs p q) :
    Calls Tryd.prog 20 #[.pointer (some ⟨g, 0, none⟩)] w fun e w' => e = .returned (.int .i64 ((q - p : Nat) : Int)) ∧ ∃ n, w' = w.drewN n := by
  have c1 := h.c1
  have c2 := h.c2
  have b1 : (p : Int) ≤ q := by have := h.pq; omega
  have b2 : (q : Int) ≤ 140737488355328 := by have := h.qb; have := h.len; omega
  have HE : Hid ((q : Int) - p = ((q - p : Nat) : Int)) := by have := h.pq; unfold Hid; omega
  clear h
  go_enter Tryd.func20, Tryd.ntmps20
  go_wp2
  go_quiet (fail)
  go_wp2
  go_ret
  exact ⟨by rw [← HE.out]; rfl, _, rfl⟩
end Go.Proofs.YtidhcmhheohciaaDoor
