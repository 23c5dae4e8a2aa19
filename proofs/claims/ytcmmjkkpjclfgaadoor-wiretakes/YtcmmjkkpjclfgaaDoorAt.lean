import Derived.Test.YtcmmjkkpjclfgaaDoorKind
namespace Go.Proofs.YtcmmjkkpjclfgaaDoor
open Go.RowKit

/-- v wraps u with the places ps, the first one outermost -/
def Wraps (w : World) : List Int → Value → Value → Prop
  | [], v, u => v = u
  | p :: ps, v, u => ∃ g x, v = .iface 111 (.pointer (some ⟨g, 0, none⟩)) ∧ w.heap[g]? = some (Obj.cells #[.int .i64 p, x] 114 (0, 0)) ∧ Wraps w ps x u
theorem Wraps.err {w : World} : ∀ {ps : List Int} {v : Value} {k : Int}, Wraps w ps v (.iface 29 (.int .i64 k)) → ErrIs w ps v k
  | [], _, _, e => e
  | _ :: _, _, _, ⟨g, u, e1, e2, e3⟩ => ⟨g, u, e1, e2, Wraps.err e3⟩
theorem Wraps.keep {w w' : World} (h : ∀ (g : Nat) (c : Array Value), w.heap[g]? = some (Obj.cells c 114 (0, 0)) → w'.heap[g]? = w.heap[g]?) : ∀ {ps : List Int} {v u : Value}, Wraps w ps v u → Wraps w' ps v u
  | [], _, _, e => e
  | _ :: _, _, _, ⟨g, u, e1, e2, e3⟩ => ⟨g, u, e1, (h g _ e2).trans e2, Wraps.keep h e3⟩
theorem Wraps.iface {w : World} {T : TypeId} {x : Value} : ∀ {ps : List Int} {v : Value}, Wraps w ps v (.iface T x) → ∃ T x, v = .iface T x
  | [], _, e => ⟨_, _, e⟩
  | _ :: _, _, ⟨_, _, e, _⟩ => ⟨_, _, e⟩
/-- the values vs can be read at the slice that begins at a -/
def Row (w : World) (a : Option Addr) (vs : List Value) : Prop :=
  (a = none ∧ vs = []) ∨ ∃ x, a = some x ∧ ∀ j u, vs[j]? = some u → w.cell? (x.add j) = some u
theorem Row.keep {S : Nat → Prop} {w w' : World} {a : Option Addr} {vs : List Value} (h : Row w a vs) (f : Fr S w w') (hs : ∀ x, a = some x → ¬ S x.block) : Row w' a vs := by
  rcases h with h | ⟨x, rfl, h⟩
  · exact .inl h
  · exact .inr ⟨x, rfl, fun j u hj => f.cell (h j u hj) (by unfold Addr.add; split <;> exact hs x rfl)⟩
def I64 (ps : List Int) : List Value := ps.map (Value.int .i64)

theorem Row.at {w : World} {a : Option Addr} {vs : List Value} (h : Row w a vs) {j : Nat} {u : Value} (hj : vs[j]? = some u) : ∃ b o, a = some ⟨b, o, none⟩ ∧ w.cell? ⟨b, o + j, none⟩ = some u := by
  rcases h with ⟨-, rfl⟩ | ⟨x, rfl, h⟩
  · simp at hj
  · obtain ⟨b, o, s⟩ := x
    have hc := h j u hj
    have h0 : ∃ u0, vs[0]? = some u0 := by
      cases vs with
      | nil => simp at hj
      | cons y ys => exact ⟨y, rfl⟩
    obtain ⟨u0, hu0⟩ := h0
    have hs : s = none := by simpa [Addr.add] using World.cell?_spot (h 0 u0 hu0)
    subst hs
    refine ⟨b, o, rfl, ?_⟩
    by_cases hz : j = 0
    · subst hz; simpa [Addr.add] using hc
    · simpa [Addr.add, hz] using hc
theorem wraps_push {w : World} {p : Int} {ps : List Int} {v u : Value} (h : Wraps w ps v u) :
    Wraps (w.alloc (.cells #[.int .i64 p, v] 114)) (p :: ps) (.iface 111 (.pointer (some ⟨w.heap.size, 0, none⟩))) u :=
  ⟨w.heap.size, v, rfl, heap_alloc_new w _, h.keep (fun g _ hg => Below.heap_alloc w _ g (heap_lt hg))⟩

set_option maxRecDepth 100000 in
set_option maxHeartbeats 1000000 in
theorem at_any (ps : List Int) (T : TypeId) (x : Value) (a : Option Addr) (c : Nat) (w : World) (hr : Row w a (I64 ps)) (hl : ps.length ≤ 140737488355328) :
    Calls Tryd.prog 25 #[.iface T x, .slice a ps.length c] w fun e w' => ∃ v, e = .returned v ∧ Wraps w' ps v (.iface T x) ∧ Fr (fun _ => False) w w' := by
  have HR : Hid (Row w a (I64 ps)) := hr
  clear hr
  go_enter Tryd.func25, Tryd.ntmps25
  go_wp2
  go_loopg [0, 5] ps.length (fun n t i wr => n ≤ ps.length ∧ (n = 0 → i = .int .i64 (-1)) ∧ (∀ m : Nat, n = m + 1 → i = .int .i64 m) ∧ Hid (Wraps wr (ps.drop n) t (.iface T x) ∧ Fr (fun _ => False) w wr))
  case atStart => exact ⟨Nat.le_refl _, fun h => by simp [h], fun m h => by simp [h], by unfold Hid; exact ⟨by simp [Wraps], Fr.refl _ _⟩⟩
  case round =>
    obtain ⟨hn, h0, h1, hw⟩ := hrel
    cases gk with
    | zero =>
      obtain rfl := h0 rfl
      clear h0 h1
      go_wp2
      go_ret
      exact ⟨_, rfl, by simpa using hw.out.1, hw.out.2⟩
    | succ m =>
      obtain rfl := h1 m rfl
      clear h0 h1
      have hp : (I64 ps)[m]? = some (.int .i64 (ps.getD m 0)) := by
        have : m < ps.length := by omega
        simp [I64, this]
      obtain ⟨b, o, rfl, hc⟩ := (HR.out.keep hw.out.2 (fun _ _ h => h)).at hp
      have hm : (m : Int) < ps.length := by omega
      have HD : Hid (ps.drop m = ps.getD m 0 :: ps.drop (m + 1)) := by
        have : m < ps.length := by omega
        unfold Hid
        rw [List.drop_eq_getElem_cons this]
        simp [this]
      generalize ps.getD m 0 = p at *
      obtain ⟨T0, x0, rfl⟩ := hw.out.1.iface
      clear hp
      go_wp2
      go_roundg m
      case rel =>
        refine ⟨by omega, fun h => by subst h; rfl, fun j h => by subst h; go_num, ?_, ?_⟩
        · rw [HD.out]; exact wraps_push hw.out.1
        · exact hw.out.2.alloc _
      case measure => simp
end Go.Proofs.YtcmmjkkpjclfgaaDoor
