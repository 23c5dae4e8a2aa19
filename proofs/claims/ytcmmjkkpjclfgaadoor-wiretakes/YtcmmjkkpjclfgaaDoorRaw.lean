import Derived.Test.YtcmmjkkpjclfgaaDoorRi
import Derived.Deep.RegionHeld3
namespace Go.Proofs.YtcmmjkkpjclfgaaDoor
open Go.RowKit

theorem wpList_append_none {P : Program} (w : World) {ops : Array Oper} {rest : List Oper} {o : Oper} {a : Act} {Q : Exit → Act → World → Prop} (hgd : o.guard = none) (s x : Operand) (t : TypeId)
    (ho : o.op = .call { callee := .builtin .append, args := #[s, x], argTypes := #[t, t] }) (v : Value) (hs : a.eval s = v) (hx : a.eval x = .slice none 0 0)
    (hr : ∀ ty, (Builtin.append_ #[t, t] ty #[v, .slice none 0 0]).run P w = .ok v w) (h : wpList P ops Q rest (a.put o.dst v) w) : wpList P ops Q (o :: rest) a w := by
  refine wpList_plain hgd fun K hK => ?_
  unfold Oper.wp execOp
  simp only [ho, resolve, invoke, builtin, Sem.run_bind, Sem.run_pure, Result.andThen_ok, List.map_toArray, List.map_cons, List.map_nil, hs, hx, hr]
  exact hK _ _ h

set_option maxRecDepth 100000 in
set_option maxHeartbeats 400000 in
theorem wraw_any (g : Nat) (r : Option Nat) (bs xs : List UInt8) (a : Option Addr) (c : Nat) (w : World) (h : Wtr w g r bs) (hx : Bs w a xs) (hc : a = none → c = 0) (hl : bs.length + xs.length ≤ 1000000000) :
    Calls Tryd.prog 31 #[.pointer (some ⟨g, 0, none⟩), .slice a xs.length c] w fun e w' => e = .returned (.tuple #[]) ∧ WStep w w' g r (bs ++ xs) := by
  obtain ⟨v, hg, rfl, hne, hown⟩ := h
  have hcell : w.cell? ⟨g, 0, none⟩ = some v := by simp [World.cell?, hg]
  obtain ⟨i0, hi, hz0, hz1, hz2⟩ := info_parts Tryd.info5
  rcases hx with ⟨rfl, rfl⟩ | ⟨x, rfl, hx⟩
  · obtain rfl := hc rfl
    have hap : ∀ ty, (Builtin.append_ #[55, 55] ty #[v, .slice none 0 0]).run Tryd.prog w = .ok v w := fun ty => run_append_owned_none w 0 55 ty 5 i0 1 Tryd.underlying55 hi v _ _ hown
    have hfro : w.frozen? ⟨g, 0, none⟩ = false := by simp [World.frozen?, hg]
    have R : Hid (WStep w (w.setCell ⟨g, 0, none⟩ v) g v.ownBlock (bs ++ [])) := by
      refine ⟨v.ownBlock, ⟨v, setCell_heap_one hg, rfl, hne, ?_⟩, (Fr.refl _ w).setCell _ (fun _ => .inl rfl) _, .inl rfl⟩
      rw [List.append_nil]
      exact ownsRow_heap hown (fun k hk => Below.heap_setCell _ _ _ _ (fun e => hne (by rw [hk]; exact congrArg some e)))
    obtain ⟨av, cv, rfl⟩ := ownsRow_slice hown
    have HAP : Hid (∀ ty, (Builtin.append_ #[55, 55] ty #[.slice av bs.length cv, .slice none 0 0]).run Tryd.prog w = .ok (.slice av bs.length cv) w) := hap
    clear hi hg hown hc hap
    go_enter Tryd.func31, Tryd.ntmps31
    go_wp2_with (at_builtin; refine wpList_append_none _ rfl (.tmp 10) (.tmp 11) 55 rfl _ rfl rfl HAP.out ?_)
    go_end0
    exact ⟨rfl, R⟩
  · have HL : Hid (bs.length + xs.length ≤ 1000000000) := hl
    clear hl hc
    go_enter Tryd.func31, Tryd.ntmps31
    go_wp2_with (at_builtin; refine wpList_append_where _ rfl (.tmp 10) (.tmp 11) 55 rfl 5 i0 (.int .u8 0) 1 1 Tryd.underlying55 hi hz0 hz1 hz2 rfl (by decide) v bs.length (B8 bs) rfl hown x xs.length c (B8 xs) rfl (by rw [B8_length, Nat.mul_one]) hx (b8_one xs) ?c3 ?c4 ?_)
    case c3 => unfold maxLen; have := HL.out; omega
    case c4 => have := HL.out; omega
    intro a' c' w1 hown' hgrow hwh
    obtain ⟨hcell1, hfro1, R⟩ := wtr_after hg hne (Fr.refl _ w) hgrow (by simp) (B8_append bs xs).symm hown' rfl hwh
    clear hi hgrow hown hown' hg hwh hx
    go_wp2
    go_end0
    exact ⟨rfl, R⟩

/-- a Writer's bytes can be read at its row -/
theorem own_bs {w : World} {a : Option Addr} {n c : Nat} {xs : List UInt8} (h : w.ownsRow 0 5 1 (.slice a n c) n (B8 xs)) : Bs w a xs := by
  rcases h.2 with ⟨e, e2⟩ | ⟨g, cap, cur, e, _⟩
  · cases e
    have := h.1
    exact .inl ⟨rfl, List.eq_nil_of_length_eq_zero (by rw [B8_length] at this; omega)⟩
  · have e' := e
    simp only [Value.slice.injEq] at e'
    exact .inr ⟨_, e'.1, h.cells (g := g) (by rw [e]; rfl)⟩

set_option maxRecDepth 100000 in
set_option maxHeartbeats 400000 in
theorem bytes_any (g : Nat) (r : Option Nat) (bs : List UInt8) (w : World) (h : Wtr w g r bs) (hl : bs.length ≤ 1000000000) :
    Calls Tryd.prog 39 #[.pointer (some ⟨g, 0, none⟩)] w fun e w' => e = .returned (.slice (some ⟨w.heap.size, 0, none⟩) bs.length bs.length) ∧ w' = w.alloc (rowObj bs) := by
  obtain ⟨v, hg, rfl, hne, hown⟩ := h
  have hcell : w.cell? ⟨g, 0, none⟩ = some v := by simp [World.cell?, hg]
  obtain ⟨av, cv, rfl⟩ := ownsRow_slice hown
  have C := copied_any av cv bs w (own_bs hown) (by omega)
  clear hg hne hown hl
  go_enter Tryd.func39, Tryd.ntmps39
  go_wp2_with fail
  refine C.mono ?_
  rintro e w' ⟨rfl, rfl⟩
  clear C
  go_wp2
  go_ret
  exact ⟨rfl, rfl⟩

theorem raw_copy {w : World} {a : Option Addr} {bs : List UInt8} {p n c m : Nat} (hq : p + n ≤ bs.length) (hl : bs.length ≤ 140737488355328) (hm : m = n) (hr : Row w a (B8 (leftOf bs p (p + n)))) (i : Nat) :
    Calls Tryd.prog 85 #[.slice a m c] (w.drewN i) fun e w2 => e = .returned (.slice (some ⟨w.heap.size, 0, none⟩) n n) ∧ w2 = (w.drewN i).alloc (rowObj (leftOf bs p (p + n))) := by
  have hlen : (leftOf bs p (p + n)).length = n := by rw [left_length hq]; omega
  have := copied_any a c (leftOf bs p (p + n)) (w.drewN i) (hr.keep (fr_drewN w i) (fun _ _ h => h)).bs (by omega)
  rw [hlen] at this
  rw [hm]
  exact this
theorem raw_done {w : World} {g rb : Nat} {bs xs : List UInt8} {p q n i : Nat} (h : Rdr w g rb bs p q) (hn : p + n ≤ q) (z : Int) (hz : z = ((p + n : Nat) : Int)) :
    (((w.drewN i).alloc (rowObj xs)).setCell ⟨g, 1, none⟩ (.int .i64 z)).heap[w.heap.size]? = some (rowObj xs) ∧ Rdr (((w.drewN i).alloc (rowObj xs)).setCell ⟨g, 1, none⟩ (.int .i64 z)) g rb bs (p + n) q ∧ Fr (fun k => k = g) w (((w.drewN i).alloc (rowObj xs)).setCell ⟨g, 1, none⟩ (.int .i64 z)) := by
  have hgl := heap_lt h.obj
  have f1 : Fr (fun _ => False) w ((w.drewN i).alloc (rowObj xs)) := (fr_drewN w i).alloc _
  refine ⟨?_, rdr_set (h.keep f1 (fun h => h) (fun h => h)) rfl hn z hz, (f1.mono (T := fun k => k = g) (fun _ _ h => h.elim)).setCell ⟨g, 1, none⟩ (fun _ => rfl) _⟩
  rw [Below.heap_setCell _ _ _ _ (by simp; omega)]
  exact heap_alloc_new (w.drewN i) _

set_option maxRecDepth 100000 in
set_option maxHeartbeats 1000000 in
theorem rraw_ok (g rb : Nat) (bs : List UInt8) (p q n : Nat) (w : World) (h : Rdr w g rb bs p q) (hn : p + n ≤ q) :
    Calls Tryd.prog 36 #[.pointer (some ⟨g, 0, none⟩), .int .i64 (n : Int)] w fun e w' =>
      e = .returned (.tuple #[.slice (some ⟨w.heap.size, 0, none⟩) n n, .nilIface]) ∧ w'.heap[w.heap.size]? = some (rowObj (leftOf bs p (p + n))) ∧ Rdr w' g rb bs (p + n) q ∧ Fr (fun k => k = g) w w' := by
  have L := left_any g rb bs p q w h
  have c0 := h.c0
  have c1 := h.c1
  have f1 := h.fz 1
  have hgl := heap_lt h.obj
  have hfz : ∀ (i : Nat) (o : Obj), ((w.drewN i).alloc o).frozen? ⟨g, 1, none⟩ = false := fun i o => by
    rw [World.frozen?_alloc_old _ _ _ (Nat.ne_of_lt hgl)]; exact f1
  have b1 : (p : Int) ≤ q := by have := h.pq; omega
  have b2 : (q : Int) ≤ bs.length := by have := h.qb; omega
  have b3 : (bs.length : Int) ≤ 140737488355328 := by have := h.len; omega
  have hn0 : ¬ ((n : Int) < 0) := by omega
  have hnL : ¬ (((q - p : Nat) : Int) < (n : Int)) := by omega
  have b4 : (0 : Int) ≤ p := by omega
  have b5 : (0 : Int) ≤ n := by omega
  have b6 : (p : Int) + n ≤ bs.length := by omega
  have b7 : (p : Int) ≤ p + n := by omega
  have hws : IntKind.i64.wrap ((p : Int) + n) = p + n := by rw [IntKind.wrap_i64]; omega
  have HR : Hid (Row w (if bs.length = p then some ⟨rb, 0, none⟩ else some ⟨rb, p, none⟩) (B8 (leftOf bs p (p + n)))) := left_row' (q := p + n) h.row (by have := h.qb; omega)
  have HB : Hid (p + n ≤ bs.length ∧ bs.length ≤ 140737488355328) := ⟨by have := h.qb; omega, h.len⟩
  have H : Hid (Rdr w g rb bs p q ∧ p + n ≤ q) := ⟨h, hn⟩
  clear h
  by_cases hbp : bs.length = p
  · subst hbp
    have C := fun i => raw_copy (w := w) (a := some ⟨rb, 0, none⟩) (bs := bs) (p := bs.length) (n := n) (c := 0) (m := 0) HB.out.1 HB.out.2 (by omega) (by simpa using HR.out) i
    go_enter Tryd.func36, Tryd.ntmps36
    go_wp2_with fail
    refine L.mono ?_
    rintro e w' ⟨rfl, j, rfl⟩
    clear L
    go_wp2
    go_region_held3 (fun w' => w'.cell? ⟨g, 0, none⟩ = some (.slice (some ⟨rb, 0, none⟩) bs.length bs.length) ∧ w'.cell? ⟨g, 1, none⟩ = some (.int .i64 (bs.length : Int))) (go_keep) ((go_at_call 85; refine (C _).mono ?_; rintro e w2 ⟨rfl, rfl⟩))
    clear C
    go_wp2
    go_ret2
    exact ⟨rfl, raw_done H.out.1 H.out.2 _ (by omega)⟩
  · have C := fun i => raw_copy (w := w) (a := some ⟨rb, p, none⟩) (bs := bs) (p := p) (n := n) (c := bs.length - p) (m := ((p : Int) + n).toNat - p) HB.out.1 HB.out.2 (by omega) (by simpa [hbp] using HR.out) i
    go_enter Tryd.func36, Tryd.ntmps36
    go_wp2_with fail
    refine L.mono ?_
    rintro e w' ⟨rfl, j, rfl⟩
    clear L
    go_wp2
    go_region_held3 (fun w' => w'.cell? ⟨g, 0, none⟩ = some (.slice (some ⟨rb, 0, none⟩) bs.length bs.length) ∧ w'.cell? ⟨g, 1, none⟩ = some (.int .i64 (p : Int))) (go_keep) ((go_at_call 85; refine (C _).mono ?_; rintro e w2 ⟨rfl, rfl⟩))
    clear C
    go_wp2
    go_ret2
    exact ⟨rfl, raw_done H.out.1 H.out.2 _ (by omega)⟩
end Go.Proofs.YtcmmjkkpjclfgaaDoor
