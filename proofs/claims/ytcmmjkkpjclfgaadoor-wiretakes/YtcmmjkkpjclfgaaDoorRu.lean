import Derived.Test.YtcmmjkkpjclfgaaDoorNum
namespace Go.Proofs.YtcmmjkkpjclfgaaDoor
open Go.RowKit

/-- what is left of a Reader's bytes -/
def leftOf (bs : List UInt8) (p q : Nat) : List UInt8 := (bs.take q).drop p

theorem left_length {bs : List UInt8} {p q : Nat} (h : q ≤ bs.length) : (leftOf bs p q).length = q - p := by simp [leftOf]; omega
theorem left_get {bs : List UInt8} {p q j : Nat} {u : Value} (h : (B8 (leftOf bs p q))[j]? = some u) : (B8 bs)[p + j]? = some u := by
  simp only [B8, leftOf, List.getElem?_map, List.getElem?_drop, List.getElem?_take] at h ⊢
  split at h
  · exact h
  · simp at h
/-- where all[p:q] begins -/
def sliceAt (rb p n : Nat) : Option Addr := if n = p then some ⟨rb, 0, none⟩ else some ⟨rb, p, none⟩
theorem left_row' {w : World} {rb : Nat} {bs : List UInt8} {p q : Nat} (hrow : w.heap[rb]? = some (rowObj bs)) (hqb : q ≤ bs.length) : Row w (sliceAt rb p bs.length) (B8 (leftOf bs p q)) := by
  unfold sliceAt
  split
  · rename_i e
    have e2 : leftOf bs p q = [] := List.eq_nil_of_length_eq_zero (by rw [left_length hqb]; omega)
    rw [e2]
    exact .inr ⟨_, rfl, by simp [B8]⟩
  · refine .inr ⟨_, rfl, fun j u hj => ?_⟩
    have := left_get hj
    have hr : w.heap[rb]? = some (Obj.cells (B8 bs).toArray 5 (0, 0)) := hrow
    have hc : w.cell? ⟨rb, p + j, none⟩ = some u := by
      simp only [World.cell?, hr]
      simpa using this
    by_cases hz : j = 0
    · subst hz; simpa [Addr.add] using hc
    · simpa [Addr.add, hz] using hc
theorem left_row {w : World} {g rb : Nat} {bs : List UInt8} {p q : Nat} (h : Rdr w g rb bs p q) : Row w (sliceAt rb p bs.length) (B8 (leftOf bs p q)) := left_row' h.row h.qb
theorem Row.bs {w : World} {a : Option Addr} {xs : List UInt8} (h : Row w a (B8 xs)) : Bs w a xs := by
  rcases h with ⟨h1, h2⟩ | h
  · exact .inl ⟨h1, List.eq_nil_of_length_eq_zero (by rw [← B8_length, h2]; rfl)⟩
  · exact .inr h
theorem number_val {w : World} {g rb : Nat} {bs : List UInt8} {p q n s k : Nat} (h : Rdr w g rb bs p q) (hn : numGo (leftOf bs p q) 0 0 = (n, s, k)) (j : Nat) :
    Calls Tryd.prog 84 #[.slice (if bs.length = p then some ⟨rb, 0, none⟩ else some ⟨rb, p, none⟩) (q - p) (bs.length - p)] (w.drewN j) fun e w' => e = .returned (.tuple #[.int .u64 n, .int .i64 s, .int .i64 k]) ∧ w' = w.drewN j := by
  have := number_any (sliceAt rb p bs.length) (bs.length - p) (leftOf bs p q) (w.drewN j) ((left_row h).keep (Fr.ofBelow (S := fun _ => False) ⟨rfl, rfl, rfl, Nat.le_refl _, fun _ _ => rfl⟩) (fun _ _ h => h)) (by rw [left_length h.qb]; have := h.qb; have := h.len; omega)
  rw [left_length h.qb] at this
  refine this.mono ?_
  rintro e w' ⟨⟨n', s', k', h1, rfl⟩, rfl⟩
  rw [hn] at h1
  cases h1
  exact ⟨rfl, rfl⟩

theorem numGo_size : ∀ (bs : List UInt8) (i n a s : Nat), numGo bs i n = (a, s, 0) → i < s ∧ s ≤ i + bs.length
  | [], i, n, a, s, h => by simp [numGo] at h
  | c :: r, i, n, a, s, h => by
    unfold numGo at h
    split at h
    · simp at h
    · split at h
      · have := numGo_size r (i + 1) _ a s h
        simp; omega
      · split at h
        · simp at h
        · simp at h; simp; omega
theorem Rdr.ne {w : World} {g rb : Nat} {bs : List UInt8} {p q : Nat} (h : Rdr w g rb bs p q) : rb ≠ g := by
  rintro rfl
  have h1 := h.obj
  rw [h.row] at h1
  simp [rowObj] at h1
theorem rdr_set {w W : World} {g rb : Nat} {bs : List UInt8} {p q p' : Nat} (h : Rdr w g rb bs p q) (hW : W.heap = w.heap) (hp : p' ≤ q) (z : Int) (hz : z = p') : Rdr (W.setCell ⟨g, 1, none⟩ (.int .i64 z)) g rb bs p' q := by
  subst hz
  refine ⟨?_, ?_, hp, h.qb, h.len⟩
  · have : W.heap[g]? = _ := (congrArg (·[g]?) hW).trans h.obj
    simp [World.setCell, Array.getElem?_modify, this]
  · rw [Below.heap_setCell _ _ _ _ h.ne, hW]; exact h.row
theorem fr_set {w W : World} {g : Nat} (hw : Below w.heap.size w W) (o : Nat) (v : Value) : Fr (fun k => k = g) w (W.setCell ⟨g, o, none⟩ v) := (Fr.ofBelow (S := fun k => k = g) hw).setCell ⟨g, o, none⟩ (fun _ => rfl) _
theorem below_drewN' (w : World) (n B : Nat) : Below B w (w.drewN n) := ⟨rfl, rfl, rfl, Nat.le_refl _, fun _ _ => rfl⟩

set_option maxRecDepth 100000 in
set_option maxHeartbeats 400000 in
theorem ruint_ok (g rb : Nat) (bs : List UInt8) (p q : Nat) (most : Int) (n s : Nat) (w : World) (h : Rdr w g rb bs p q) (hn : numGo (leftOf bs p q) 0 0 = (n, s, 0)) (hm : (n : Int) ≤ most) :
    Calls Tryd.prog 34 #[.pointer (some ⟨g, 0, none⟩), .int .u64 most] w fun e w' => e = .returned (.tuple #[.int .u64 n, .nilIface]) ∧ Rdr w' g rb bs (p + s) q ∧ Fr (fun k => k = g) w w' := by
  have c0 := h.c0
  have c1 := h.c1
  have c2 := h.c2
  have C := number_val h hn
  have H : Hid (Rdr w g rb bs p q) := h
  have b1 : (p : Int) ≤ q := by have := h.pq; omega
  have b2 : (q : Int) ≤ bs.length := by have := h.qb; omega
  have b3 : (bs.length : Int) ≤ 140737488355328 := by have := h.len; omega
  have HN : Hid (numGo (leftOf bs p q) 0 0 = (n, s, 0)) := hn
  have hmI : ¬ most < (n : Int) := by omega
  have f1 := h.fz 1
  have bs1 : (s : Int) ≤ q - p := by have := numGo_size _ _ _ _ _ hn; rw [left_length h.qb] at this; have := h.pq; omega
  have HP : Hid (p + s ≤ q) := by have := h.pq; unfold Hid; omega
  clear h
  clear hn
  go_enter Tryd.func34, Tryd.ntmps34
  go_wp2
  go_quiet ((go_at_call 84; exact Calls.quiet_of_same (C _)))
  clear C
  go_wp2
  all_goals
    go_ret2
    exact ⟨rfl, rdr_set (W := w.drewN nq) H.out rfl HP.out _ (by omega), fr_set (below_drewN' _ _ _) _ _⟩

theorem Rdr.drewN {w : World} {g rb : Nat} {bs : List UInt8} {p q : Nat} (h : Rdr w g rb bs p q) (n : Nat) : Rdr (w.drewN n) g rb bs p q := ⟨h.obj, h.row, h.pq, h.qb, h.len⟩
theorem fr_drewN (w : World) (n : Nat) : Fr (fun _ => False) w (w.drewN n) := Fr.ofBelow (below_drewN' _ _ _)

set_option maxRecDepth 100000 in
set_option maxHeartbeats 400000 in
theorem ruint_bad (g rb : Nat) (bs : List UInt8) (p q : Nat) (most : Int) (n s k : Nat) (w : World) (h : Rdr w g rb bs p q) (hn : numGo (leftOf bs p q) 0 0 = (n, s, k)) (hk : k ≠ 0) :
    Calls Tryd.prog 34 #[.pointer (some ⟨g, 0, none⟩), .int .u64 most] w fun e w' => ∃ v, e = .returned (.tuple #[.int .u64 0, v]) ∧ Wraps w' [(p : Int)] v (.iface 29 (.int .i64 k)) ∧ Fr (fun _ => False) w w' := by
  have c0 := h.c0
  have c1 := h.c1
  have c2 := h.c2
  have C := number_val h hn
  have D := fun j => fail_any g rb bs p q k (w.drewN j) (h.drewN j)
  have b1 : (p : Int) ≤ q := by have := h.pq; omega
  have b2 : (q : Int) ≤ bs.length := by have := h.qb; omega
  have b3 : (bs.length : Int) ≤ 140737488355328 := by have := h.len; omega
  have hk' : ((k : Int) != 0) = true := by simp; omega
  clear hn h hk
  go_enter Tryd.func34, Tryd.ntmps34
  go_wp2
  go_quiet ((go_at_call 84; exact Calls.quiet_of_same (C _)))
  clear C
  go_wp2_with fail
  all_goals
    refine (D _).mono ?_
    rintro e w' ⟨v, rfl, hv, hf⟩
    have HV : Hid (Wraps w' [(p : Int)] v (.iface 29 (.int .i64 k)) ∧ Fr (fun _ => False) w w') := ⟨hv, (fr_drewN w _).trans hf⟩
    clear hv hf D
    go_wp2
    go_ret2
    exact ⟨v, rfl, HV.out⟩

set_option maxRecDepth 100000 in
set_option maxHeartbeats 400000 in
theorem ruint_high (g rb : Nat) (bs : List UInt8) (p q : Nat) (most : Int) (n s : Nat) (w : World) (h : Rdr w g rb bs p q) (hn : numGo (leftOf bs p q) 0 0 = (n, s, 0)) (hm : most < (n : Int)) :
    Calls Tryd.prog 34 #[.pointer (some ⟨g, 0, none⟩), .int .u64 most] w fun e w' => ∃ v, e = .returned (.tuple #[.int .u64 0, v]) ∧ Wraps w' [(p : Int)] v (.iface 29 (.int .i64 4)) ∧ Fr (fun _ => False) w w' := by
  have c0 := h.c0
  have c1 := h.c1
  have c2 := h.c2
  have C := number_val h hn
  have D := fun j => fail_any g rb bs p q 4 (w.drewN j) (h.drewN j)
  have b1 : (p : Int) ≤ q := by have := h.pq; omega
  have b2 : (q : Int) ≤ bs.length := by have := h.qb; omega
  have b3 : (bs.length : Int) ≤ 140737488355328 := by have := h.len; omega
  clear hn h
  go_enter Tryd.func34, Tryd.ntmps34
  go_wp2
  go_quiet ((go_at_call 84; exact Calls.quiet_of_same (C _)))
  clear C
  go_wp2_with fail
  all_goals
    refine (D _).mono ?_
    rintro e w' ⟨v, rfl, hv, hf⟩
    have HV : Hid (Wraps w' [(p : Int)] v (.iface 29 (.int .i64 4)) ∧ Fr (fun _ => False) w w') := ⟨hv, (fr_drewN w _).trans hf⟩
    clear hv hf D
    go_wp2
    go_ret2
    exact ⟨v, rfl, HV.out⟩
end Go.Proofs.YtcmmjkkpjclfgaaDoor
