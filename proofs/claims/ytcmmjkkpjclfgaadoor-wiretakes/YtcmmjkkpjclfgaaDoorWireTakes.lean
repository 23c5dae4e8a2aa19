/-
  WireTakes holds of the landed code: for every input the law's call returns true, and each argument reads afterwards as it read before.
  Conditions: the listed package variables hold at the call what the program's own text lays in them (the card ties that), and the arguments lie within the form's own reach.
-/
import Derived.Test.YtcmmjkkpjclfgaaDoorInB
import Derived.Test.YtcmmjkkpjclfgaaDoorInA
import Derived.Test.YtcmmjkkpjclfgaaDoorWTW
namespace Go.Proofs.YtcmmjkkpjclfgaaDoor
open Go.ChangeShapes Go.WideShapes Go.ChangeAt Go.RowKit
open Go.ChangeMaps (open_string shut_string)

theorem takes_walk' (a0 : Option Addr) (len cap : Nat) (ys : List UInt8) (a1 : Option Addr) (len1 c1 : Nat) (qs : List Ak) (w : World) (hG : Glob w) (hin : InB w a0 len cap ys) (hq : qs.length = len1 ∧ RowA w a1 qs ∧ qs.length ≤ 140737488355328) :
    Calls Tryd.prog 8 #[.slice a0 len cap, .slice a1 len1 c1] w fun e w' => e = .returned (.bool true) ∧ Below w.heap.size w w' := by
  have h := takes_walk a0 len cap ys a1 c1 qs w hG hin.1 hin.2.1 hin.2.2.1 hin.2.2.2.1 (by have := hin.2.2.2.2; omega) hq.2.1 hq.2.2
  rw [hq.1] at h
  exact h

set_option maxRecDepth 100000 in
theorem wireTakes_lifted (os : Os) (started : os.Started) (H : Type) (enc : TypeId × Value → H) :
    ReturnsInHanded {} Tryd.checked os 8 .any (fun w args => (Rows.wireTakesSpec.pre enc Tryd.prog Tryd.f8 [] false w args ∧ laidMetH Tryd.prog laid1 w) ∧ sizedMet enc Tryd.prog Tryd.f8 (OpenSpec.ofChange Rows.wireTakesSpec) false w args)
      (Rows.wireTakesSpec.post enc Tryd.prog Tryd.f8 false true false false) := by
  refine returnsInHanded_of_change_and (C := Tryd.checked) (X := fun w _ => laidMetH Tryd.prog laid1 w) (fun _ _ _ hh h => h.of_heap hh) own started (by kernel_rfl) Tryd.func8
    (ChangeSpec.witness_shaped (enc := enc) (C := Tryd.checked) (os := os) (X := fun w _ => laidMetH Tryd.prog laid1 w) false (World.doorLaid Tryd.prog 31 os) #[.slice none 0 0, .slice none 0 0] 8 rfl (World.shaped_of_RefB (by kernel_rfl) (by kernel_rfl)) (by kernel_rfl) (by kernel_rfl) (by kernel_rfl) (laid1_met os _)) ?_
  intro W base args ds gs before hval0 hW _ hsz0 hL _
  have hval : ∀ (j : Nat) t v, Tryd.f8.params[j]? = some t → args[j]? = some v → Value.okWide Tryd.prog W .any base t v := hval0
  have hsz : (DataW.weightsEach Tryd.prog (Tryd.f8.params.toList ++ Rows.wireTakesSpec.plain.varTypes Tryd.prog) (ds ++ gs)).all (· ≤ reachBytes) = true := hsz0
  have hW' := hW
  obtain ⟨p, q, hA0, hV, rfl, hfz, hnd⟩ := hW
  have hA : DataW.TrodAll enc Tryd.prog W 0 (fun _ => true) true Tryd.f8.params.toList args.toList ds p := hA0
  rw [Tryd.params8] at hA hval hsz
  obtain ⟨v0, vs0, d0, ds0, p0, q0, hargs, rfl, rfl, h0, r0⟩ := trodAll_cons hA
  obtain ⟨v1, vs1, d1, ds1, p1, q1, rfl, rfl, rfl, h1, r1⟩ := trodAll_cons r0
  obtain ⟨rfl, rfl, rfl⟩ := trodAll_nil r1
  obtain rfl : args = #[v0, v1] := by cases args; simp_all
  obtain ⟨rfl, rfl⟩ := trodVars_none hV
  obtain ⟨a0, len0, cap0, rfl⟩ := okWide_slice Tryd.underlying55 (hval 0 55 v0 rfl rfl)
  have k0 := h0
  have lt0 : ∀ x ∈ p0, x.block < W.heap.size := by obtain ⟨m, hm⟩ := k0; exact DataW.trod_lt m _ _ _ hm
  obtain ⟨ys0, hin0⟩ := open_bytes h0 hsz (j := 0) rfl rfl
  obtain ⟨a1, len1, cap1, rfl⟩ := okWide_slice uA (hval 1 77 v1 rfl rfl)
  have k1 := h1
  have lt1 : ∀ x ∈ p1, x.block < W.heap.size := by obtain ⟨m, hm⟩ := k1; exact DataW.trod_lt m _ _ _ hm
  obtain ⟨ys1, hin1⟩ := open_asks h1 hsz (j := 1) rfl rfl
  clear hA0 hval0
  refine (takes_walk' a0 len0 cap0 ys0 a1 len1 cap1 ys1 W (glob_of_laid hL) hin0 hin1).mono fun e W' ⟨he, bel⟩ => ?_
  subst he
  exact ⟨_, rfl, _, _, _, [], _, [], hW', trodAll_mk1 (shut_bool Tryd.underlying4 _), (trodAll_cons_mk (Below.trod laidOut (by kernel_rfl) (of_decide_eq_true (by kernel_rfl)) k0 bel lt0) (trodAll_cons_mk (Below.trod laidOut (by kernel_rfl) (of_decide_eq_true (by kernel_rfl)) k1 bel lt1) trodAll_mk0)), rfl, bel.frame _, fun h => by cases h⟩

theorem wireTakes_row : Rows.WireTakesSaid :=
  OpenClaim.holds_of_wide 8 Tryd.f8 rfl rfl rfl rfl rfl rfl rfl ⟨rfl, rfl, rfl, rfl, rfl⟩ rfl rfl rfl rfl rfl (by kernel_rfl) Tryd.func8 (by kernel_rfl)
    (of_decide_eq_true (by kernel_rfl)) (by unfold Func.isWrapper; rw [if_neg (of_decide_eq_false (by kernel_rfl))]; exact ⟨rfl, rfl⟩)
    (fun os started H enc _ => wireTakes_lifted os started H enc)

theorem wireTakes_holds : Rows.WireTakesCardSaid :=
  Claim7.holds_tied_plain_at .later [] [.handle] true (true, "a6f19979b1aa972c5be1e16c2dced33230367292b9ce39a5a19585d824b29d2e") true
    wireTakes_row (fun _ h => by cases h) (by kernel_rfl) (fun _ h => by cases h) wireTakes_row_tie rfl ⟨rfl, rfl⟩ (by kernel_rfl) rfl
    (fun f fn hf hfn => by
      obtain rfl : f = 8 := Option.some.inj ((show Tryd.prog.funcNamed "averment/avermentlaw02.WireTakes" = some 8 by kernel_rfl).symm.trans hf) |>.symm
      obtain rfl : fn = Tryd.f8 := (Option.some.inj (Tryd.func8.symm.trans hfn)).symm
      exact ⟨by kernel_rfl, fun j t ht => by
          rw [Tryd.params8] at ht
          rcases j with _ | _ | j
          · obtain rfl : t = 55 := by simpa using ht.symm
            exact (show Tryd.prog.wantsStandIn 55 = false by kernel_rfl)
          · obtain rfl : t = 77 := by simpa using ht.symm
            exact (show Tryd.prog.wantsStandIn 77 = false by kernel_rfl)
          · simp at ht⟩)
    (by kernel_rfl)
#print axioms wireTakes_holds
end Go.Proofs.YtcmmjkkpjclfgaaDoor
