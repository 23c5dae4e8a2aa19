import Derived.Test.YthiacdbjlkpfgaaGreatDoorRows
import Derived.Test.YthiacdbjlkpfgaaGreatDoorTie
import Derived.Test.YthiacdbjlkpfgaaGreatDoorCards
import Derived.Test.YthiacdbjlkpfgaaGreatDoorG26
import Derived.WalkKit
import Derived.ProofKit
import Derived.OpenShut
import Derived.ShutString
import Derived.ChangeOld
import Derived.Below
import Derived.LaidMore
import Derived.LaidHandle
import Derived.Lib.LaidTab
import Derived.SevenTiedAt
import Derived.WideKeyPair
import Derived.Deep.Slices
import Derived.ChangeSame
namespace Go.Proofs.YthiacdbjlkpfgaaGreatDoor
open Go.ChangeShapes Go.WideShapes Go.ChangeAt Go.RowKit Go.Lib Go.Deep
theorem own : ownKnob Tryz.prog.godebug = none := by kernel_rfl
theorem laidOut : laidOutB Tryz.prog = true := by kernel_rfl
/-- an array of arrays of integers that reads as a table of tables holds their numbers, cell for cell -/
theorem tab2_cell {H : Type} {enc : TypeId × Value → H} {P : Program} {w : World} {base : Nat} {sp : Nat → Bool} {held : Bool} {fuel : Nat} {t e q : TypeId} {n m : Nat} {k : IntKind} {cs : List Value} {zss : List (List Int)} {p : List MemPlace}
    (ht : P.underlying t = some (.array n e)) (he : P.underlying e = some (.array m q)) (hq : P.underlying q = some (.int k)) (hcq : P.cellsOf q = 1) (hce : P.cellsOf e = m) (hct : P.cellsOf t = n * m)
    (h : DataW.trod enc P w base sp held fuel t cs = some (.agg (zss.map (tabData k)), p)) (i : Nat) (hi : i < n) : ∃ zs, zss[i]? = some zs ∧ (cs.drop (i * m)).take m = zs.map fun z => Value.int k z := by
  cases fuel with
  | zero => simp [DataW.trod] at h
  | succ fuel =>
    simp only [DataW.trod, ht, hce, hct] at h
    split at h
    · rename_i hl
      obtain ⟨xs, hm, hx⟩ := Option.map_eq_some_iff.1 h
      have hxs : xs.map (·.1) = zss.map (tabData (H := H) k) := by
        have := congrArg Prod.fst hx
        simpa using this
      obtain ⟨b, hb, hf⟩ := mapM_at hm i i (by simp [hi])
      have h2 : (xs.map (·.1))[i]? = some b.1 := by simp [hb]
      rw [hxs] at h2
      simp only [List.getElem?_map, Option.map_eq_some_iff] at h2
      obtain ⟨zs, hz, hbz⟩ := h2
      refine ⟨zs, hz, ?_⟩
      obtain ⟨b1, b2⟩ := b
      simp only at hbz
      subst hbz
      exact cells_of_tab he hq hcq hce hf
    · cases h


def laidPS : List (String × DataW Unit) := [("averment/parity.pairs", Rows.laid_averment_parity_pairs), ("averment/sign.pairs", Rows.laid_averment_sign_pairs)]
def stab2 : List (List Int) := [[7, 1, 7, 1, 2, 4, 7, 4, 5], [7, 1, 5, 5, 2, 1, 5, 4, 7], [7, 2, 7, 2, 2, 2, 7, 2, 7], [7, 0, 3, 2, 0, 2, 3, 0, 6], [3, 0, 3, 2, 0, 2, 6, 0, 6], [1, 2, 6, 2, 2, 2, 6, 2, 6], [6, 1, 1, 1, 2, 4, 1, 4, 6], [6, 4, 4, 2, 2, 4, 2, 2, 6], [6, 2, 2, 2, 4, 2, 2, 2, 6]]
def ptab2 : List (List Int) := [[1, 2, 2, 1], [1, 2, 2, 1], [1, 1, 1, 2], [3, 3, 3, 3], [1, 3, 2, 3], [1, 1, 1, 2], [1, 2, 2, 1], [3, 3, 3, 3], [3, 1, 1, 3]]
theorem Tryz.gS : Tryz.prog.globalNamed "averment/sign.pairs" = some 0 := by kernel_rfl
theorem Tryz.tS : (Tryz.prog.globals[0]?).map (·.type) = some 99 := by kernel_rfl
theorem Tryz.uS : Tryz.prog.underlying 99 = some (.array 9 98) := by kernel_rfl
theorem Tryz.uS2 : Tryz.prog.underlying 98 = some (.array 9 3) := by kernel_rfl
theorem Tryz.gP : Tryz.prog.globalNamed "averment/parity.pairs" = some 1 := by kernel_rfl
theorem Tryz.tP : (Tryz.prog.globals[1]?).map (·.type) = some 101 := by kernel_rfl
theorem Tryz.uP : Tryz.prog.underlying 101 = some (.array 9 100) := by kernel_rfl
theorem Tryz.uP2 : Tryz.prog.underlying 100 = some (.array 4 3) := by kernel_rfl
theorem Tryz.cells2 : Tryz.prog.cellsOf 2 = 1 := by kernel_rfl
theorem Tryz.cells3 : Tryz.prog.cellsOf 3 = 1 := by kernel_rfl
theorem Tryz.cells4 : Tryz.prog.cellsOf 4 = 1 := by kernel_rfl
theorem Tryz.cells23 : Tryz.prog.cellsOf 23 = 2 := by kernel_rfl
theorem Tryz.cells25 : Tryz.prog.cellsOf 25 = 2 := by kernel_rfl
theorem Tryz.cells27 : Tryz.prog.cellsOf 27 = 6 := by kernel_rfl
theorem Tryz.cells98 : Tryz.prog.cellsOf 98 = 9 := by kernel_rfl
theorem Tryz.cells99 : Tryz.prog.cellsOf 99 = 9 * 9 := by kernel_rfl
theorem Tryz.cells100 : Tryz.prog.cellsOf 100 = 4 := by kernel_rfl
theorem Tryz.cells101 : Tryz.prog.cellsOf 101 = 9 * 4 := by kernel_rfl
theorem stab_eq : ∀ i : Fin 9, ∀ j : Fin 9, ((stab2[i.val]?).bind (·[j.val]?)) = some (up (stb (i.val * 9 + j.val))) := by decide +kernel
theorem ptab_eq : ∀ i : Fin 9, ∀ j : Fin 4, ((ptab2[i.val]?).bind (·[j.val]?)) = some (up (ptb (i.val * 4 + j.val))) := by decide +kernel
theorem glob_of_laid {W : World} (h : laidMetH Tryz.prog laidPS W) : GlobS W ∧ GlobP W := by
  have h' : laidMet Tryz.prog laidPS W := h
  obtain ⟨ps, hv, _⟩ := h'
  obtain ⟨g, t, cs, fuel, p, q, e1, e2, e3, e4, hv2, _⟩ := hv
  obtain ⟨g', t', cs', fuel', p', q', d1, d2, d3, d4, _⟩ := hv2
  obtain rfl := Option.some.inj (Tryz.gP.symm.trans e1)
  obtain rfl := Option.some.inj (Tryz.tP.symm.trans e2)
  obtain rfl := Option.some.inj (Tryz.gS.symm.trans d1)
  obtain rfl := Option.some.inj (Tryz.tS.symm.trans d2)
  constructor
  · intro n hn
    obtain ⟨zs, hz, hc⟩ := tab2_cell (zss := stab2) Tryz.uS Tryz.uS2 Tryz.underlying3 Tryz.cells3 Tryz.cells98 Tryz.cells99 d4 (n / 9) (by omega)
    have hs := stab_eq ⟨n / 9, by omega⟩ ⟨n % 9, by omega⟩
    simp only [hz, Option.bind_some] at hs
    rw [show n / 9 * 9 + n % 9 = n by omega] at hs
    rw [World.var?_cell Tryz.gS d3 n]
    have h3 := congrArg (·[n % 9]?) hc
    simp only [List.getElem?_map, hs, Option.map_some, List.getElem?_take, List.getElem?_drop] at h3
    rw [if_pos (by omega), show n / 9 * 9 + n % 9 = n by omega] at h3
    simpa using h3
  · intro n hn
    obtain ⟨zs, hz, hc⟩ := tab2_cell (zss := ptab2) Tryz.uP Tryz.uP2 Tryz.underlying3 Tryz.cells3 Tryz.cells100 Tryz.cells101 e4 (n / 4) (by omega)
    have hs := ptab_eq ⟨n / 4, by omega⟩ ⟨n % 4, by omega⟩
    simp only [hz, Option.bind_some] at hs
    rw [show n / 4 * 4 + n % 4 = n by omega] at hs
    rw [World.var?_cell Tryz.gP e3 n]
    have h3 := congrArg (·[n % 4]?) hc
    simp only [List.getElem?_map, hs, Option.map_some, List.getElem?_take, List.getElem?_drop] at h3
    rw [if_pos (by omega), show n / 4 * 4 + n % 4 = n by omega] at h3
    simpa using h3
theorem laidPS_met (os : Os) (args : Array Value) : laidMetH Tryz.prog laidPS ((World.doorLaid Tryz.prog 37 os).forCall (fun _ _ => 0) ⟨#[], args, []⟩).memory :=
  show laidMet Tryz.prog laidPS _ from laidMet_of_run' 8 (by kernel_rfl) (by kernel_rfl)
theorem i64_of_wf {n : Int} (h : (Lit.int .i64 n).wf = true) : i64 n := by
  simp only [Lit.wf, Bool.and_eq_true, decide_eq_true_eq] at h
  exact ⟨h.1, h.2⟩
theorem six_of {cs : Array Value} (h : cs.size = 6) : ∃ c0 c1 c2 c3 c4 c5, cs = #[c0, c1, c2, c3, c4, c5] := by
  obtain ⟨l⟩ := cs
  match l, h with
  | [c0, c1, c2, c3, c4, c5], _ => exact ⟨c0, c1, c2, c3, c4, c5, rfl⟩
set_option maxRecDepth 100000 in
theorem known_cells {H : Type} {enc : TypeId × Value → H} {W : World} {base : Nat} {sp : Nat → Bool} {held : Bool} {fuel : Nat} {c0 c1 : Value} {d : DataW H × List MemPlace}
    (hf : DataW.trod enc Tryz.prog W base sp held fuel 23 [c0, c1] = some d) : ∃ a b, c0 = .bool a ∧ c1 = .int .i64 b ∧ i64 b := by
  obtain ⟨d1, d2⟩ := d
  obtain ⟨xs, m, _, _, _, hl, hx⟩ := DataW.trod_struct Tryz.underlying23 hf
  have g0 : DataW.trod enc Tryz.prog W base sp held m 4 (([c0, c1].drop 0).take (Tryz.prog.cellsOf 4)) = xs[0]? := hx 0 _ rfl
  have g1 : DataW.trod enc Tryz.prog W base sp held m 2 (([c0, c1].drop 1).take (Tryz.prog.cellsOf 2)) = xs[1]? := hx 1 _ rfl
  rw [Tryz.cells4] at g0
  rw [Tryz.cells2] at g1
  simp only [List.drop, List.take] at g0 g1
  have hl2 : xs.length = 2 := hl
  cases e0 : xs[0]? with
  | none => have := List.getElem?_eq_none_iff.1 e0; omega
  | some y0 =>
    cases e1 : xs[1]? with
    | none => have := List.getElem?_eq_none_iff.1 e1; omega
    | some y1 =>
      rw [e0] at g0
      rw [e1] at g1
      obtain ⟨a, ha, _⟩ := DataW.trod_bool Tryz.underlying4 g0
      obtain ⟨b, hb, _, wb⟩ := DataW.trod_int Tryz.underlying2 g1
      simp at ha hb
      exact ⟨a, b, ha, hb, i64_of_wf wb⟩
set_option maxRecDepth 100000 in
theorem span_cells {H : Type} {enc : TypeId × Value → H} {W : World} {base : Nat} {sp : Nat → Bool} {held : Bool} {fuel : Nat} {c0 c1 : Value} {d : DataW H × List MemPlace}
    (hf : DataW.trod enc Tryz.prog W base sp held fuel 25 [c0, c1] = some d) : ∃ a b, c0 = .int .i64 a ∧ c1 = .int .i64 b ∧ i64 a ∧ i64 b := by
  obtain ⟨d1, d2⟩ := d
  obtain ⟨xs, m, _, _, _, hl, hx⟩ := DataW.trod_struct Tryz.underlying25 hf
  have g0 : DataW.trod enc Tryz.prog W base sp held m 2 (([c0, c1].drop 0).take (Tryz.prog.cellsOf 2)) = xs[0]? := hx 0 _ rfl
  have g1 : DataW.trod enc Tryz.prog W base sp held m 2 (([c0, c1].drop 1).take (Tryz.prog.cellsOf 2)) = xs[1]? := hx 1 _ rfl
  rw [Tryz.cells2] at g0 g1
  simp only [List.drop, List.take] at g0 g1
  have hl2 : xs.length = 2 := hl
  cases e0 : xs[0]? with
  | none => have := List.getElem?_eq_none_iff.1 e0; omega
  | some y0 =>
    cases e1 : xs[1]? with
    | none => have := List.getElem?_eq_none_iff.1 e1; omega
    | some y1 =>
      rw [e0] at g0
      rw [e1] at g1
      obtain ⟨a, ha, _, wa⟩ := DataW.trod_int Tryz.underlying2 g0
      obtain ⟨b, hb, _, wb⟩ := DataW.trod_int Tryz.underlying2 g1
      simp at ha hb
      exact ⟨a, b, ha, hb, i64_of_wf wa, i64_of_wf wb⟩
set_option maxRecDepth 100000 in
theorem val_cells {H : Type} {enc : TypeId × Value → H} {W : World} {base : Nat} {sp : Nat → Bool} {held : Bool} {fuel : Nat} {c0 c1 c2 c3 c4 c5 : Value} {d : DataW H × List MemPlace}
    (hf : DataW.trod enc Tryz.prog W base sp held fuel 27 [c0, c1, c2, c3, c4, c5] = some d) : ∃ r : R, c0 = .int .i64 r.s ∧ c1 = .bool r.k ∧ c2 = .int .i64 r.n ∧ c3 = .int .i64 r.lo ∧ c4 = .int .i64 r.hi ∧ c5 = .int .i64 r.p ∧ i64 r.n ∧ i64 r.lo ∧ i64 r.hi := by
  obtain ⟨d1, d2⟩ := d
  obtain ⟨xs, m, _, _, _, hl, hx⟩ := DataW.trod_struct Tryz.underlying27 hf
  have g0 : DataW.trod enc Tryz.prog W base sp held m 3 (([c0, c1, c2, c3, c4, c5].drop 0).take (Tryz.prog.cellsOf 3)) = xs[0]? := hx 0 _ rfl
  have g1 : DataW.trod enc Tryz.prog W base sp held m 23 (([c0, c1, c2, c3, c4, c5].drop 1).take (Tryz.prog.cellsOf 23)) = xs[1]? := hx 1 _ rfl
  have g2 : DataW.trod enc Tryz.prog W base sp held m 25 (([c0, c1, c2, c3, c4, c5].drop 3).take (Tryz.prog.cellsOf 25)) = xs[2]? := hx 2 _ rfl
  have g3 : DataW.trod enc Tryz.prog W base sp held m 3 (([c0, c1, c2, c3, c4, c5].drop 5).take (Tryz.prog.cellsOf 3)) = xs[3]? := hx 3 _ rfl
  rw [Tryz.cells3] at g0 g3
  rw [Tryz.cells23] at g1
  rw [Tryz.cells25] at g2
  simp only [List.drop, List.take] at g0 g1 g2 g3
  have hl2 : xs.length = 4 := hl
  cases e0 : xs[0]? with
  | none => have := List.getElem?_eq_none_iff.1 e0; omega
  | some y0 =>
    cases e1 : xs[1]? with
    | none => have := List.getElem?_eq_none_iff.1 e1; omega
    | some y1 =>
      cases e2 : xs[2]? with
      | none => have := List.getElem?_eq_none_iff.1 e2; omega
      | some y2 =>
        cases e3 : xs[3]? with
        | none => have := List.getElem?_eq_none_iff.1 e3; omega
        | some y3 =>
          rw [e0] at g0
          rw [e1] at g1
          rw [e2] at g2
          rw [e3] at g3
          obtain ⟨a, ha, _, _⟩ := DataW.trod_int Tryz.underlying3 g0
          obtain ⟨k, n, hk, hn, wn⟩ := known_cells g1
          obtain ⟨l, h, hl, hh, wl, wh⟩ := span_cells g2
          obtain ⟨b, hb, _, _⟩ := DataW.trod_int Tryz.underlying3 g3
          simp at ha hb
          exact ⟨⟨a, k, n, l, h, b⟩, ha, hk, hn, hl, hh, hb, wn, wl, wh⟩
set_option maxRecDepth 100000 in
theorem open_val {H : Type} {enc : TypeId × Value → H} {W : World} {r : Reach} {b0 base : Nat} {sp : Nat → Bool} {held : Bool} {v : Value} {d : DataW H} {p : List MemPlace}
    (hval : Value.okWide Tryz.prog W r b0 27 v) (h : DataW.Trod enc Tryz.prog W base sp held 27 v d p) : ∃ x : R, v = .agg #[.int .i64 x.s, .bool x.k, .int .i64 x.n, .int .i64 x.lo, .int .i64 x.hi, .int .i64 x.p] ∧ i64 x.n ∧ i64 x.lo ∧ i64 x.hi := by
  obtain ⟨cs, rfl, h2⟩ := okWide_struct Tryz.underlying27 hval
  rw [Tryz.cells27] at h2
  obtain ⟨c0, c1, c2, c3, c4, c5, rfl⟩ := six_of h2
  obtain ⟨fuel, hf⟩ := h
  obtain ⟨x, h0, h1, h2, h3, h4, h5, i1, i2, i3⟩ := val_cells hf
  exact ⟨x, by rw [h0, h1, h2, h3, h4, h5], i1, i2, i3⟩

end Go.Proofs.YthiacdbjlkpfgaaGreatDoor
