import Derived.Test.YtmpmefnaepnfnaaKS0
namespace Go.Proofs.Ytmpmefnaepnfnaa
open Go.RowKit
/-- the boxes of KnownMakes: a and b lie at B and behind it, x and y at p and q; nothing old has turned -/
structure Big (w : World) (B : Nat) (ai : Bool) (an : Int) (bi : Bool) (bn : Int) (p : Nat) (pi : Bool) (pn : Int) (q : Nat) (qi : Bool) (qn : Int) (wx : World) : Prop where
  a : Bx wx B ai an
  b : Bx wx (B + 1) bi bn
  x : Bz wx p pi pn
  y : Bz wx q qi qn
  bel : Below B w wx
  o1 : B + 1 < p
  o2 : p < q
section
variable {w : World} {B : Nat} {ai : Bool} {an : Int} {bi : Bool} {bn : Int} {p : Nat} {pi : Bool} {pn : Int} {q : Nat} {qi : Bool} {qn : Int} {wx wy : World}
theorem Big.keep (h : Big w B ai an bi bn p pi pn q qi qn wx) (hb : Below wx.heap.size wx wy) : Big w B ai an bi bn p pi pn q qi qn wy :=
  ⟨h.a.keep hb, h.b.keep hb, h.x.keep hb, h.y.keep hb, h.bel.trans (hb.mono (Nat.le_of_lt h.a.lt)), h.o1, h.o2⟩
theorem Bx.set' {b : World} {p q : Nat} {i : Bool} {n : Int} (h : q ≠ p) (h' : Bx b p i n) (v u : Value) : Bx ((b.setCell ⟨q, 0, none⟩ v).setCell ⟨q, 1, none⟩ u) p i n := by
  have ne : ∀ k j : Nat, (⟨q, j, none⟩ : Addr) ≠ ⟨p, k, none⟩ := fun k j e => h (congrArg Addr.block e)
  exact ⟨(World.cell?_setCell_other _ _ _ _ (ne 0 1)).trans ((World.cell?_setCell_other _ _ _ _ (ne 0 0)).trans h'.1), (World.cell?_setCell_other _ _ _ _ (ne 1 1)).trans ((World.cell?_setCell_other _ _ _ _ (ne 1 0)).trans h'.2)⟩
theorem Bz.set' {b : World} {p q : Nat} {i : Bool} {n : Int} (h : q ≠ p) (h' : Bz b p i n) (v u : Value) : Bz ((b.setCell ⟨q, 0, none⟩ v).setCell ⟨q, 1, none⟩ u) p i n :=
  ⟨h'.1.set' h v u, by simpa using h'.2.1, by simpa using h'.2.2⟩
theorem Bz.wrote {b : World} {q : Nat} {i i' : Bool} {n n' : Int} (h : Bz b q i n) : Bz ((b.setCell ⟨q, 0, none⟩ (.bool i')).setCell ⟨q, 1, none⟩ (.int .i64 n')) q i' n' :=
  ⟨Bx.wrote h.1.1 h.1.2, by simpa using h.2.1, by simpa using h.2.2⟩
theorem Big.setx (h : Big w B ai an bi bn p pi pn q qi qn wx) (i : Bool) (n : Int) : Big w B ai an bi bn p i n q qi qn ((wx.setCell ⟨p, 0, none⟩ (.bool i)).setCell ⟨p, 1, none⟩ (.int .i64 n)) :=
  have h1 := h.o1
  have h2 := h.o2
  ⟨h.a.set' (by omega) _ _, h.b.set' (by omega) _ _, h.x.wrote, h.y.set' (by omega) _ _, (h.bel.setCell (p := ⟨p, 0, none⟩) (show B ≤ p by omega) _).setCell (p := ⟨p, 1, none⟩) (show B ≤ p by omega) _, h.o1, h.o2⟩
theorem Big.sety (h : Big w B ai an bi bn p pi pn q qi qn wx) (i : Bool) (n : Int) : Big w B ai an bi bn p pi pn q i n ((wx.setCell ⟨q, 0, none⟩ (.bool i)).setCell ⟨q, 1, none⟩ (.int .i64 n)) :=
  have h1 := h.o1
  have h2 := h.o2
  ⟨h.a.set' (by omega) _ _, h.b.set' (by omega) _ _, h.x.set' (by omega) _ _, h.y.wrote, (h.bel.setCell (p := ⟨q, 0, none⟩) (show B ≤ q by omega) _).setCell (p := ⟨q, 1, none⟩) (show B ≤ q by omega) _, h.o1, h.o2⟩
end
/-- From(x) != y || ok != is, of two that are the same -/
def SX (w : World) (B : Nat) (ai : Bool) (an : Int) (bi : Bool) (bn : Int) (p q : Nat) (i : Bool) (n : Int) (wx : World) : Prop := Big w B ai an bi bn p i n q i n wx
set_option maxRecDepth 100000 in
set_option maxHeartbeats 8000000 in
theorem kmakes_walk (op : Int) (ai : Bool) (an : Int) (bi : Bool) (bn : Int) (w : World) (ha : i64 an) (hb : i64 bn) : Calls Try.prog 4 #[.int .i64 op, .agg #[.bool ai, .int .i64 an], .agg #[.bool bi, .int .i64 bn]] w fun e w' => e = .returned (.bool true) ∧ Below w.heap.size w w' := by
  have x0 : Bx ((w.alloc (.cells #[.bool ai, .int .i64 an] 23)).alloc (.cells #[.bool bi, .int .i64 bn] 23)) w.heap.size ai an := (Bx.new w ai an 23).keep ((Below.refl _ _).alloc (Nat.le_refl _) _)
  have x1 : Bx ((w.alloc (.cells #[.bool ai, .int .i64 an] 23)).alloc (.cells #[.bool bi, .int .i64 bn] 23)) (w.heap.size + 1) bi bn := by simpa using Bx.new (w.alloc (.cells #[.bool ai, .int .i64 an] 23)) bi bn 23
  have x2 : Below w.heap.size w ((w.alloc (.cells #[.bool ai, .int .i64 an] 23)).alloc (.cells #[.bool bi, .int .i64 bn] 23)) := (by repeat (first | exact Below.refl _ _ | (refine Below.drew ?_) | (refine Below.setCell ?_ (by first | omega | (simp; done) | (simp; omega)) _) | (refine Below.alloc ?_ (by first | omega | (simp; done) | (simp; omega)) _) | (refine Below.trans ?_ (Below.mono (by assumption) (by first | omega | (simp; done) | (simp; omega))))))
  go_enter Try.func4, Try.ntmps4
  go_upto_region 2 with (first
    | (go_at_call 8; refine (to_any _ _ _).mono ?_; rintro e w' ⟨rfl, o1, o2, rfl⟩)
    | (go_at_call 21; refine (one_any _ _ _ _).mono ?_; rintro e w1 ⟨rfl, hb1⟩))
  have A1 := (x0.keep (((Below.refl _ _).alloc (Nat.le_refl _) o1).alloc (by simp) o2)).keep hb1
  have B1 := (x1.keep (((Below.refl _ _).alloc (Nat.le_refl _) o1).alloc (by simp) o2)).keep hb1
  have F1 : Below w.heap.size w w1 := (x2.trans ((((Below.refl _ _).alloc (Nat.le_refl _) o1).alloc (by simp) o2).mono x2.size)).trans (hb1.mono (by simp; omega))
  have P1 := Bz.new w1 (oneI op ai) (oneN op ai an) 24
  have a10 := A1.1
  have a11 := A1.2
  have a12 := A1.lt
  have b12 := B1.lt
  go_upto_region 3 with (go_at_call 22; refine (oner_any _ _ _ _).mono ?_; rintro e w2 ⟨rfl, hb2⟩)
  have A2 := ((A1.keep ((Below.refl _ _).alloc (Nat.le_refl _) (.cells #[.bool (oneI op ai), .int .i64 (oneN op ai an)] 24))).keep hb2).keep ((Below.refl _ _).alloc (Nat.le_refl _) (.cells #[.bool (oneI op ai), .int .i64 (oneN op ai an)] 23))
  have B2 := ((B1.keep ((Below.refl _ _).alloc (Nat.le_refl _) (.cells #[.bool (oneI op ai), .int .i64 (oneN op ai an)] 24))).keep hb2).keep ((Below.refl _ _).alloc (Nat.le_refl _) (.cells #[.bool (oneI op ai), .int .i64 (oneN op ai an)] 23))
  have P2 := (P1.keep hb2).keep ((Below.refl _ _).alloc (Nat.le_refl _) (.cells #[.bool (oneI op ai), .int .i64 (oneN op ai an)] 23))
  have lt2 := (P1.keep hb2).1.lt
  have Q2 := Bz.new w2 (oneI op ai) (oneN op ai an) 23
  have F2 := ((F1.alloc F1.size (.cells #[.bool (oneI op ai), .int .i64 (oneN op ai an)] 24)).trans (hb2.mono (Nat.le_trans F1.size (by simp))))
  have F3 := F2.alloc F2.size (.cells #[.bool (oneI op ai), .int .i64 (oneN op ai an)] 23)
  have G3 : Big w w.heap.size ai an bi bn w1.heap.size (oneI op ai) (oneN op ai an) w2.heap.size (oneI op ai) (oneN op ai an) _ := ⟨A2, B2, P2, Q2, F3, b12, lt2⟩
  clear A2 B2 P2 lt2 Q2 F2 F3 hb2 a10 a11 a12 b12 P1 F1 B1 A1 hb1 x0 x1 x2
  go_name_world W3 hW3
  rw [hW3] at G3
  clear hW3
  obtain ⟨B, hB⟩ : ∃ B, B = w.heap.size := ⟨_, rfl⟩
  rw [← hB] at G3 ⊢
  have HB : Hid (B = w.heap.size) := hB
  clear hB
  generalize w1.heap.size = p at *
  generalize w2.heap.size = q at *
  have HG : Hid (Big w B ai an bi bn p (oneI op ai) (oneN op ai an) q (oneI op ai) (oneN op ai an) W3) := G3
  clear G3
  have hcl : ∀ a b : World, (a.cell? ⟨p, 0, none⟩ = some (.bool (oneI op ai)) ∧ a.cell? ⟨p, 1, none⟩ = some (.int .i64 (oneN op ai an)) ∧ p < a.heap.size ∧ a.cell? ⟨q, 0, none⟩ = some (.bool (oneI op ai)) ∧ a.cell? ⟨q, 1, none⟩ = some (.int .i64 (oneN op ai an)) ∧ q < a.heap.size ∧ Hid (Big w B ai an bi bn p (oneI op ai) (oneN op ai an) q (oneI op ai) (oneN op ai an) a)) → Below a.heap.size a b → (b.cell? ⟨p, 0, none⟩ = some (.bool (oneI op ai)) ∧ b.cell? ⟨p, 1, none⟩ = some (.int .i64 (oneN op ai an)) ∧ p < b.heap.size ∧ b.cell? ⟨q, 0, none⟩ = some (.bool (oneI op ai)) ∧ b.cell? ⟨q, 1, none⟩ = some (.int .i64 (oneN op ai an)) ∧ q < b.heap.size ∧ Hid (Big w B ai an bi bn p (oneI op ai) (oneN op ai an) q (oneI op ai) (oneN op ai an) b)) := fun a b h hb => by
      have g := Big.keep h.2.2.2.2.2.2.out hb
      exact ⟨g.x.1.1, g.x.1.2, g.x.1.lt, g.y.1.1, g.y.1.2, g.y.1.lt, g⟩
  have hS0 : W3.cell? ⟨p, 0, none⟩ = some (.bool (oneI op ai)) ∧ W3.cell? ⟨p, 1, none⟩ = some (.int .i64 (oneN op ai an)) ∧ p < W3.heap.size ∧ W3.cell? ⟨q, 0, none⟩ = some (.bool (oneI op ai)) ∧ W3.cell? ⟨q, 1, none⟩ = some (.int .i64 (oneN op ai an)) ∧ q < W3.heap.size ∧ Hid (Big w B ai an bi bn p (oneI op ai) (oneN op ai an) q (oneI op ai) (oneN op ai an) W3) := ⟨HG.out.x.1.1, HG.out.x.1.2, HG.out.x.1.lt, HG.out.y.1.1, HG.out.y.1.2, HG.out.y.1.lt, HG⟩
  have HCL : Hid _ := hcl
  clear hcl
  have mkB : ∀ wx : World, (wx.cell? ⟨p, 0, none⟩ = some (.bool (oneI op ai)) ∧ wx.cell? ⟨p, 1, none⟩ = some (.int .i64 (oneN op ai an)) ∧ p < wx.heap.size ∧ wx.cell? ⟨q, 0, none⟩ = some (.bool (oneI op ai)) ∧ wx.cell? ⟨q, 1, none⟩ = some (.int .i64 (oneN op ai an)) ∧ q < wx.heap.size ∧ Hid (Big w B ai an bi bn p (oneI op ai) (oneN op ai an) q (oneI op ai) (oneN op ai an) wx)) → Hid (Big w B ai an bi bn p (oneI op ai) (oneN op ai an) q (oneI op ai) (oneN op ai an) wx) := fun wx h => h.2.2.2.2.2.2
  go_cut [37] (fun v wx => v = .bool false ∧ Hid (Big w B ai an bi bn p (oneI op ai) (oneN op ai an) q (oneI op ai) (oneN op ai an) wx))
  case first =>
    (go_region_held3 (fun w' => w'.cell? ⟨p, 0, none⟩ = some (.bool (oneI op ai)) ∧ w'.cell? ⟨p, 1, none⟩ = some (.int .i64 (oneN op ai an)) ∧ p < w'.heap.size ∧ w'.cell? ⟨q, 0, none⟩ = some (.bool (oneI op ai)) ∧ w'.cell? ⟨q, 1, none⟩ = some (.int .i64 (oneN op ai an)) ∧ q < w'.heap.size ∧ Hid (Big w B ai an bi bn p (oneI op ai) (oneN op ai an) q (oneI op ai) (oneN op ai an) w'))
      ((first | assumption | exact HCL.out _ _ hS0 ((by repeat (first | exact Below.refl _ _ | (refine Below.drew ?_) | (refine Below.setCell ?_ (by first | omega | (simp; done) | (simp; omega)) _) | (refine Below.alloc ?_ (by first | omega | (simp; done) | (simp; omega)) _) | (refine Below.trans ?_ (Below.mono (by assumption) (by first | omega | (simp; done) | (simp; omega))))))) | exact HCL.out _ _ (by assumption) ((by repeat (first | exact Below.refl _ _ | (refine Below.drew ?_) | (refine Below.setCell ?_ (by first | omega | (simp; done) | (simp; omega)) _) | (refine Below.alloc ?_ (by first | omega | (simp; done) | (simp; omega)) _) | (refine Below.trans ?_ (Below.mono (by assumption) (by first | omega | (simp; done) | (simp; omega)))))))))
      ((first
        | (go_at_call 10; refine (lift (told_any _) (by assumption) HCL.out).mono ?_; rintro e w2 ⟨rfl, h2⟩)
        | (go_at_call 11; refine (lift (bel2 (from_any _ _ _)) (by assumption) HCL.out).mono ?_; rintro e w2 ⟨rfl, h2⟩)
        | fail)))
    all_goals (go_wp2; go_meet; case rel => exact ⟨rfl, mkB _ (by assumption)⟩)
  case rest =>
    obtain ⟨rfl, HG2⟩ := hcut
    clear hS0 HCL mkB HG
    have HG := HG2
    clear HG2
    have hcl : ∀ a b : World, (a.cell? ⟨B, 0, none⟩ = some (.bool ai) ∧ a.cell? ⟨B, 1, none⟩ = some (.int .i64 an) ∧ B < a.heap.size ∧ a.cell? ⟨B + 1, 0, none⟩ = some (.bool bi) ∧ a.cell? ⟨B + 1, 1, none⟩ = some (.int .i64 bn) ∧ B + 1 < a.heap.size ∧ Hid (∃ ii nn, Big w B ai an bi bn p ii nn q (oneI op ai) (oneN op ai an) a)) → Below a.heap.size a b → (b.cell? ⟨B, 0, none⟩ = some (.bool ai) ∧ b.cell? ⟨B, 1, none⟩ = some (.int .i64 an) ∧ B < b.heap.size ∧ b.cell? ⟨B + 1, 0, none⟩ = some (.bool bi) ∧ b.cell? ⟨B + 1, 1, none⟩ = some (.int .i64 bn) ∧ B + 1 < b.heap.size ∧ Hid (∃ ii nn, Big w B ai an bi bn p ii nn q (oneI op ai) (oneN op ai an) b)) := fun a b h hb => by
        obtain ⟨i, n, g0⟩ := h.2.2.2.2.2.2.out
        have g := Big.keep g0 hb
        exact ⟨g.a.1, g.a.2, g.a.lt, g.b.1, g.b.2, g.b.lt, i, n, g⟩
    have hst : ∀ (b : World) (i : Bool) (n : Int), (b.cell? ⟨B, 0, none⟩ = some (.bool ai) ∧ b.cell? ⟨B, 1, none⟩ = some (.int .i64 an) ∧ B < b.heap.size ∧ b.cell? ⟨B + 1, 0, none⟩ = some (.bool bi) ∧ b.cell? ⟨B + 1, 1, none⟩ = some (.int .i64 bn) ∧ B + 1 < b.heap.size ∧ Hid (∃ ii nn, Big w B ai an bi bn p ii nn q (oneI op ai) (oneN op ai an) b)) → (((b.setCell ⟨p, 0, none⟩ (.bool i)).setCell ⟨p, 1, none⟩ (.int .i64 n)).cell? ⟨B, 0, none⟩ = some (.bool ai) ∧ ((b.setCell ⟨p, 0, none⟩ (.bool i)).setCell ⟨p, 1, none⟩ (.int .i64 n)).cell? ⟨B, 1, none⟩ = some (.int .i64 an) ∧ B < ((b.setCell ⟨p, 0, none⟩ (.bool i)).setCell ⟨p, 1, none⟩ (.int .i64 n)).heap.size ∧ ((b.setCell ⟨p, 0, none⟩ (.bool i)).setCell ⟨p, 1, none⟩ (.int .i64 n)).cell? ⟨B + 1, 0, none⟩ = some (.bool bi) ∧ ((b.setCell ⟨p, 0, none⟩ (.bool i)).setCell ⟨p, 1, none⟩ (.int .i64 n)).cell? ⟨B + 1, 1, none⟩ = some (.int .i64 bn) ∧ B + 1 < ((b.setCell ⟨p, 0, none⟩ (.bool i)).setCell ⟨p, 1, none⟩ (.int .i64 n)).heap.size ∧ Hid (∃ ii nn, Big w B ai an bi bn p ii nn q (oneI op ai) (oneN op ai an) ((b.setCell ⟨p, 0, none⟩ (.bool i)).setCell ⟨p, 1, none⟩ (.int .i64 n)))) := fun b i n h => by
        obtain ⟨i0, n0, g0⟩ := h.2.2.2.2.2.2.out
        have g := Big.setx g0 i n
        exact ⟨g.a.1, g.a.2, g.a.lt, g.b.1, g.b.2, g.b.lt, i, n, g⟩
    have mkC : ∀ (b : World) (i : Bool) (n : Int), (b.cell? ⟨B, 0, none⟩ = some (.bool ai) ∧ b.cell? ⟨B, 1, none⟩ = some (.int .i64 an) ∧ B < b.heap.size ∧ b.cell? ⟨B + 1, 0, none⟩ = some (.bool bi) ∧ b.cell? ⟨B + 1, 1, none⟩ = some (.int .i64 bn) ∧ B + 1 < b.heap.size ∧ Hid (∃ ii nn, Big w B ai an bi bn p ii nn q (oneI op ai) (oneN op ai an) b)) → Hid (Big w B ai an bi bn p i n q (oneI op ai) (oneN op ai an) ((b.setCell ⟨p, 0, none⟩ (.bool i)).setCell ⟨p, 1, none⟩ (.int .i64 n))) := fun b i n h => by
        obtain ⟨i0, n0, g0⟩ := h.2.2.2.2.2.2.out
        exact Big.setx g0 i n
    go_upto_region 5 with fail
    have hS0 : wc.cell? ⟨B, 0, none⟩ = some (.bool ai) ∧ wc.cell? ⟨B, 1, none⟩ = some (.int .i64 an) ∧ B < wc.heap.size ∧ wc.cell? ⟨B + 1, 0, none⟩ = some (.bool bi) ∧ wc.cell? ⟨B + 1, 1, none⟩ = some (.int .i64 bn) ∧ B + 1 < wc.heap.size ∧ Hid (∃ ii nn, Big w B ai an bi bn p ii nn q (oneI op ai) (oneN op ai an) wc) := ⟨HG.out.a.1, HG.out.a.2, HG.out.a.lt, HG.out.b.1, HG.out.b.2, HG.out.b.lt, _, _, HG.out⟩
    have HCL : Hid _ := hcl
    have HST : Hid _ := hst
    clear hcl hst
    have xp0 := HG.out.x.1.1
    have xp1 := HG.out.x.1.2
    have xp2 := HG.out.x.2.1
    have xp3 := HG.out.x.2.2
    have xp4 := HG.out.x.1.lt
    have xp5 : p < wc.heap.size + 1 := by omega
    have xp6 : p < wc.heap.size + 1 + 1 := by omega
    have xp7 : p < wc.heap.size + 1 + 1 + 1 := by omega
    have xp8 : p < wc.heap.size + 1 + 1 + 1 + 1 := by omega
    go_cut [8] (fun v wx => v = .bool (twoOk op bi bn) ∧ Hid (Big w B ai an bi bn p (twoI op ai bi bn) (twoN op ai an bi bn) q (oneI op ai) (oneN op ai an) wx))
    case first =>
      (go_region_held3 (fun w' => w'.cell? ⟨B, 0, none⟩ = some (.bool ai) ∧ w'.cell? ⟨B, 1, none⟩ = some (.int .i64 an) ∧ B < w'.heap.size ∧ w'.cell? ⟨B + 1, 0, none⟩ = some (.bool bi) ∧ w'.cell? ⟨B + 1, 1, none⟩ = some (.int .i64 bn) ∧ B + 1 < w'.heap.size ∧ Hid (∃ ii nn, Big w B ai an bi bn p ii nn q (oneI op ai) (oneN op ai an) w'))
        ((first | assumption | exact HST.out _ _ _ (by assumption) | exact HCL.out _ _ hS0 ((by repeat (first | exact Below.refl _ _ | (refine Below.drew ?_) | (refine Below.setCell ?_ (by first | omega | (simp; done) | (simp; omega)) _) | (refine Below.alloc ?_ (by first | omega | (simp; done) | (simp; omega)) _) | (refine Below.trans ?_ (Below.mono (by assumption) (by first | omega | (simp; done) | (simp; omega))))))) | exact HCL.out _ _ (by assumption) ((by repeat (first | exact Below.refl _ _ | (refine Below.drew ?_) | (refine Below.setCell ?_ (by first | omega | (simp; done) | (simp; omega)) _) | (refine Below.alloc ?_ (by first | omega | (simp; done) | (simp; omega)) _) | (refine Below.trans ?_ (Below.mono (by assumption) (by first | omega | (simp; done) | (simp; omega)))))))))
        ((first
          | (go_at_call 8; refine (to_any _ _ _).mono ?_; rintro e w2 ⟨rfl, o1, o2, rfl⟩)
          | (go_at_call 23; refine (liftw (two_any _ _ _ _ _ _ (by assumption) (by assumption)) (by assumption) HCL.out).mono ?_; rintro e w2 ⟨rfl, h2, hc2, hf2, hl2⟩)
          | fail)))
      all_goals (go_wp2; go_meet; case rel => exact ⟨rfl, mkC _ _ _ (by assumption)⟩)
    case rest =>
      obtain ⟨rfl, HG2⟩ := hcut
      clear hS0 HCL HST mkC HG xp0 xp1 xp2 xp3 xp4 xp5 xp6 xp7 xp8
      have HG := HG2
      clear HG2
      have a0 := HG.out.a.1
      have a1 := HG.out.a.2
      have b0 := HG.out.b.1
      have b1 := HG.out.b.2
      go_upto_region 7 with (go_at_call 24; refine (twor_any _ _ _ _ _ _ ha hb).mono ?_; rintro e w6 ⟨rfl, hb6⟩; have G6 := Big.keep HG.out hb6; have y60 := G6.y.1.1; have y61 := G6.y.1.2; have y62 := G6.y.2.1; have y63 := G6.y.2.2)
      have HG7 : Hid (Big w B ai an bi bn p (twoI op ai bi bn) (twoN op ai an bi bn) q (twoI op ai bi bn) (twoN op ai an bi bn) ((w6.setCell ⟨q, 0, none⟩ (.bool (twoI op ai bi bn))).setCell ⟨q, 1, none⟩ (.int .i64 (twoN op ai an bi bn)))) := Big.sety G6 _ _
      clear a0 a1 b0 b1 y60 y61 y62 y63 G6 hb6 HG
      have HG := HG7
      clear HG7
      go_name_world W7 hW7
      rw [hW7] at HG
      clear hW7
      have hcl : ∀ a b : World, (a.cell? ⟨p, 0, none⟩ = some (.bool (twoI op ai bi bn)) ∧ a.cell? ⟨p, 1, none⟩ = some (.int .i64 (twoN op ai an bi bn)) ∧ p < a.heap.size ∧ a.cell? ⟨q, 0, none⟩ = some (.bool (twoI op ai bi bn)) ∧ a.cell? ⟨q, 1, none⟩ = some (.int .i64 (twoN op ai an bi bn)) ∧ q < a.heap.size ∧ Hid (Big w B ai an bi bn p (twoI op ai bi bn) (twoN op ai an bi bn) q (twoI op ai bi bn) (twoN op ai an bi bn) a)) → Below a.heap.size a b → (b.cell? ⟨p, 0, none⟩ = some (.bool (twoI op ai bi bn)) ∧ b.cell? ⟨p, 1, none⟩ = some (.int .i64 (twoN op ai an bi bn)) ∧ p < b.heap.size ∧ b.cell? ⟨q, 0, none⟩ = some (.bool (twoI op ai bi bn)) ∧ b.cell? ⟨q, 1, none⟩ = some (.int .i64 (twoN op ai an bi bn)) ∧ q < b.heap.size ∧ Hid (Big w B ai an bi bn p (twoI op ai bi bn) (twoN op ai an bi bn) q (twoI op ai bi bn) (twoN op ai an bi bn) b)) := fun a b h hb => by
          have g := Big.keep h.2.2.2.2.2.2.out hb
          exact ⟨g.x.1.1, g.x.1.2, g.x.1.lt, g.y.1.1, g.y.1.2, g.y.1.lt, g⟩
      have hS0 : W7.cell? ⟨p, 0, none⟩ = some (.bool (twoI op ai bi bn)) ∧ W7.cell? ⟨p, 1, none⟩ = some (.int .i64 (twoN op ai an bi bn)) ∧ p < W7.heap.size ∧ W7.cell? ⟨q, 0, none⟩ = some (.bool (twoI op ai bi bn)) ∧ W7.cell? ⟨q, 1, none⟩ = some (.int .i64 (twoN op ai an bi bn)) ∧ q < W7.heap.size ∧ Hid (Big w B ai an bi bn p (twoI op ai bi bn) (twoN op ai an bi bn) q (twoI op ai bi bn) (twoN op ai an bi bn) W7) := ⟨HG.out.x.1.1, HG.out.x.1.2, HG.out.x.1.lt, HG.out.y.1.1, HG.out.y.1.2, HG.out.y.1.lt, HG⟩
      have HCL : Hid _ := hcl
      clear hcl
      have mkB : ∀ wx : World, (wx.cell? ⟨p, 0, none⟩ = some (.bool (twoI op ai bi bn)) ∧ wx.cell? ⟨p, 1, none⟩ = some (.int .i64 (twoN op ai an bi bn)) ∧ p < wx.heap.size ∧ wx.cell? ⟨q, 0, none⟩ = some (.bool (twoI op ai bi bn)) ∧ wx.cell? ⟨q, 1, none⟩ = some (.int .i64 (twoN op ai an bi bn)) ∧ q < wx.heap.size ∧ Hid (Big w B ai an bi bn p (twoI op ai bi bn) (twoN op ai an bi bn) q (twoI op ai bi bn) (twoN op ai an bi bn) wx)) → Hid (Big w B ai an bi bn p (twoI op ai bi bn) (twoN op ai an bi bn) q (twoI op ai bi bn) (twoN op ai an bi bn) wx) := fun wx h => h.2.2.2.2.2.2
      go_cut [62] (fun v wx => v = .bool false ∧ Hid (Big w B ai an bi bn p (twoI op ai bi bn) (twoN op ai an bi bn) q (twoI op ai bi bn) (twoN op ai an bi bn) wx))
      case first =>
        (go_region_held3 (fun w' => w'.cell? ⟨p, 0, none⟩ = some (.bool (twoI op ai bi bn)) ∧ w'.cell? ⟨p, 1, none⟩ = some (.int .i64 (twoN op ai an bi bn)) ∧ p < w'.heap.size ∧ w'.cell? ⟨q, 0, none⟩ = some (.bool (twoI op ai bi bn)) ∧ w'.cell? ⟨q, 1, none⟩ = some (.int .i64 (twoN op ai an bi bn)) ∧ q < w'.heap.size ∧ Hid (Big w B ai an bi bn p (twoI op ai bi bn) (twoN op ai an bi bn) q (twoI op ai bi bn) (twoN op ai an bi bn) w'))
          ((first | assumption | exact HCL.out _ _ hS0 ((by repeat (first | exact Below.refl _ _ | (refine Below.drew ?_) | (refine Below.setCell ?_ (by first | omega | (simp; done) | (simp; omega)) _) | (refine Below.alloc ?_ (by first | omega | (simp; done) | (simp; omega)) _) | (refine Below.trans ?_ (Below.mono (by assumption) (by first | omega | (simp; done) | (simp; omega))))))) | exact HCL.out _ _ (by assumption) ((by repeat (first | exact Below.refl _ _ | (refine Below.drew ?_) | (refine Below.setCell ?_ (by first | omega | (simp; done) | (simp; omega)) _) | (refine Below.alloc ?_ (by first | omega | (simp; done) | (simp; omega)) _) | (refine Below.trans ?_ (Below.mono (by assumption) (by first | omega | (simp; done) | (simp; omega)))))))))
          ((first
            | (go_at_call 11; refine (lift (bel2 (from_any _ _ _)) (by assumption) HCL.out).mono ?_; rintro e w2 ⟨rfl, h2⟩)
            | fail)))
        all_goals (go_wp2; go_meet; case rel => exact ⟨rfl, mkB _ (by assumption)⟩)
      case rest =>
        obtain ⟨rfl, HG2⟩ := hcut
        clear hS0 HCL mkB HG
        have HG := HG2
        clear HG2
        go_wp2_with fail
        go_loopw [8, 10, 11] (fun v8 v10 iv wr => ∃ k : Nat, k ≤ 2 ∧ iv = .int .i64 k ∧ Hid (∃ i n j m, Big w B ai an bi bn p i n q j m wr)) (fun _ _ iv _ => 2 - (intOf iv).toNat)
        case atStart => exact ⟨0, by omega, rfl, _, _, _, _, HG.out⟩
        case round =>
          obtain ⟨k, hk, rfl, HR⟩ := hrel
          clear HG
          obtain ⟨i, n, j, m, hG⟩ := HR.out
          clear HR
          by_cases hlt : k < 2
          · have c0 := hG.a.1
            have c1 := hG.a.2
            go_upto_region 13 with (first
              | (go_at_call 8; refine (to_any _ _ _).mono ?_; rintro e w' ⟨rfl, o1, o2, rfl⟩)
              | (go_at_call 25; refine (br_any _ _ _ _).mono ?_; rintro e w8 ⟨rfl, hb8⟩; have G8 := (hG.keep (((Below.refl _ _).alloc (Nat.le_refl _) o1).alloc (by simp) o2)).keep hb8; have g80 := G8.x.1.1; have g81 := G8.x.1.2; have g82 := G8.x.2.1; have g83 := G8.x.2.2))
            have G9 := Big.setx G8 (brI ai an ((k : Int) == 1)) (brN ai an ((k : Int) == 1))
            clear c0 c1 g80 g81 g82 g83
            have d0 := G9.a.1
            have d1 := G9.a.2
            go_upto_region 14 with (go_at_call 26; refine (brr_any _ _ _ _).mono ?_; rintro e w9 ⟨rfl, hb9⟩; have GA := Big.keep G9 hb9; have ga0 := GA.y.1.1; have ga1 := GA.y.1.2; have ga2 := GA.y.2.1; have ga3 := GA.y.2.2)
            have HG : Hid (Big w B ai an bi bn p (brI ai an ((k : Int) == 1)) (brN ai an ((k : Int) == 1)) q (brI ai an ((k : Int) == 1)) (brN ai an ((k : Int) == 1)) ((w9.setCell ⟨q, 0, none⟩ (.bool (brI ai an ((k : Int) == 1)))).setCell ⟨q, 1, none⟩ (.int .i64 (brN ai an ((k : Int) == 1))))) := Big.sety GA _ _
            clear d0 d1 ga0 ga1 ga2 ga3 GA hb9 G9 G8 hb8 hG
            go_name_world WA hWA
            rw [hWA] at HG
            clear hWA
            have hcl : ∀ a b : World, (a.cell? ⟨p, 0, none⟩ = some (.bool (brI ai an ((k : Int) == 1))) ∧ a.cell? ⟨p, 1, none⟩ = some (.int .i64 (brN ai an ((k : Int) == 1))) ∧ p < a.heap.size ∧ a.cell? ⟨q, 0, none⟩ = some (.bool (brI ai an ((k : Int) == 1))) ∧ a.cell? ⟨q, 1, none⟩ = some (.int .i64 (brN ai an ((k : Int) == 1))) ∧ q < a.heap.size ∧ Hid (Big w B ai an bi bn p (brI ai an ((k : Int) == 1)) (brN ai an ((k : Int) == 1)) q (brI ai an ((k : Int) == 1)) (brN ai an ((k : Int) == 1)) a)) → Below a.heap.size a b → (b.cell? ⟨p, 0, none⟩ = some (.bool (brI ai an ((k : Int) == 1))) ∧ b.cell? ⟨p, 1, none⟩ = some (.int .i64 (brN ai an ((k : Int) == 1))) ∧ p < b.heap.size ∧ b.cell? ⟨q, 0, none⟩ = some (.bool (brI ai an ((k : Int) == 1))) ∧ b.cell? ⟨q, 1, none⟩ = some (.int .i64 (brN ai an ((k : Int) == 1))) ∧ q < b.heap.size ∧ Hid (Big w B ai an bi bn p (brI ai an ((k : Int) == 1)) (brN ai an ((k : Int) == 1)) q (brI ai an ((k : Int) == 1)) (brN ai an ((k : Int) == 1)) b)) := fun a b h hb => by
                have g := Big.keep h.2.2.2.2.2.2.out hb
                exact ⟨g.x.1.1, g.x.1.2, g.x.1.lt, g.y.1.1, g.y.1.2, g.y.1.lt, g⟩
            have hS0 : WA.cell? ⟨p, 0, none⟩ = some (.bool (brI ai an ((k : Int) == 1))) ∧ WA.cell? ⟨p, 1, none⟩ = some (.int .i64 (brN ai an ((k : Int) == 1))) ∧ p < WA.heap.size ∧ WA.cell? ⟨q, 0, none⟩ = some (.bool (brI ai an ((k : Int) == 1))) ∧ WA.cell? ⟨q, 1, none⟩ = some (.int .i64 (brN ai an ((k : Int) == 1))) ∧ q < WA.heap.size ∧ Hid (Big w B ai an bi bn p (brI ai an ((k : Int) == 1)) (brN ai an ((k : Int) == 1)) q (brI ai an ((k : Int) == 1)) (brN ai an ((k : Int) == 1)) WA) := ⟨HG.out.x.1.1, HG.out.x.1.2, HG.out.x.1.lt, HG.out.y.1.1, HG.out.y.1.2, HG.out.y.1.lt, HG⟩
            have HCL : Hid _ := hcl
            clear hcl
            have mkB : ∀ wx : World, (wx.cell? ⟨p, 0, none⟩ = some (.bool (brI ai an ((k : Int) == 1))) ∧ wx.cell? ⟨p, 1, none⟩ = some (.int .i64 (brN ai an ((k : Int) == 1))) ∧ p < wx.heap.size ∧ wx.cell? ⟨q, 0, none⟩ = some (.bool (brI ai an ((k : Int) == 1))) ∧ wx.cell? ⟨q, 1, none⟩ = some (.int .i64 (brN ai an ((k : Int) == 1))) ∧ q < wx.heap.size ∧ Hid (Big w B ai an bi bn p (brI ai an ((k : Int) == 1)) (brN ai an ((k : Int) == 1)) q (brI ai an ((k : Int) == 1)) (brN ai an ((k : Int) == 1)) wx)) → Hid (Big w B ai an bi bn p (brI ai an ((k : Int) == 1)) (brN ai an ((k : Int) == 1)) q (brI ai an ((k : Int) == 1)) (brN ai an ((k : Int) == 1)) wx) := fun wx h => h.2.2.2.2.2.2
            go_cut [90] (fun v wx => v = .bool false ∧ Hid (Big w B ai an bi bn p (brI ai an ((k : Int) == 1)) (brN ai an ((k : Int) == 1)) q (brI ai an ((k : Int) == 1)) (brN ai an ((k : Int) == 1)) wx))
            case first =>
              (go_region_held3 (fun w' => w'.cell? ⟨p, 0, none⟩ = some (.bool (brI ai an ((k : Int) == 1))) ∧ w'.cell? ⟨p, 1, none⟩ = some (.int .i64 (brN ai an ((k : Int) == 1))) ∧ p < w'.heap.size ∧ w'.cell? ⟨q, 0, none⟩ = some (.bool (brI ai an ((k : Int) == 1))) ∧ w'.cell? ⟨q, 1, none⟩ = some (.int .i64 (brN ai an ((k : Int) == 1))) ∧ q < w'.heap.size ∧ Hid (Big w B ai an bi bn p (brI ai an ((k : Int) == 1)) (brN ai an ((k : Int) == 1)) q (brI ai an ((k : Int) == 1)) (brN ai an ((k : Int) == 1)) w'))
                ((first | assumption | exact HCL.out _ _ hS0 ((by repeat (first | exact Below.refl _ _ | (refine Below.drew ?_) | (refine Below.setCell ?_ (by first | omega | (simp; done) | (simp; omega)) _) | (refine Below.alloc ?_ (by first | omega | (simp; done) | (simp; omega)) _) | (refine Below.trans ?_ (Below.mono (by assumption) (by first | omega | (simp; done) | (simp; omega))))))) | exact HCL.out _ _ (by assumption) ((by repeat (first | exact Below.refl _ _ | (refine Below.drew ?_) | (refine Below.setCell ?_ (by first | omega | (simp; done) | (simp; omega)) _) | (refine Below.alloc ?_ (by first | omega | (simp; done) | (simp; omega)) _) | (refine Below.trans ?_ (Below.mono (by assumption) (by first | omega | (simp; done) | (simp; omega)))))))))
                ((first
                  | (go_at_call 11; refine (lift (bel2 (from_any _ _ _)) (by assumption) HCL.out).mono ?_; rintro e w2 ⟨rfl, h2⟩)
                  | fail)))
              all_goals (go_wp2; go_meet; case rel => exact ⟨rfl, mkB _ (by assumption)⟩)
            case rest =>
              obtain ⟨rfl, HG2⟩ := hcut
              clear hS0 HCL mkB HG
              have HG := HG2
              clear HG2
              go_wp2
              go_roundw
              case rel => exact ⟨k + 1, by omega, by go_num, _, _, _, _, HG.out⟩
              case measure => simp [intOf]; omega
          · go_wp2
            go_ret
            exact ⟨rfl, by have h' := hG.bel; rwa [HB.out] at h'⟩
end Go.Proofs.Ytmpmefnaepnfnaa
