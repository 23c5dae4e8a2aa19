import Derived.Test.YtmpmefnaepnfnaaKt
import Derived.Deep.DeepCutAuto
import Derived.Deep.CutBlock
import Derived.Lib.ItoaWalk
namespace Go.Proofs.Ytmpmefnaepnfnaa
open Go.RowKit
set_option maxRecDepth 100000 in
set_option maxHeartbeats 8000000 in
theorem ksets_t (an : Int) (bi : Bool) (bn : Int) (n : Int) (w : World) : Calls Try.prog 3 #[.agg #[.bool true, .int .i64 an], .agg #[.bool bi, .int .i64 bn], .int .i64 n] w fun e w' => e = .returned (.bool true) ∧ Below w.heap.size w w' := by
  have x0 : Bx ((w.alloc (.cells #[.bool true, .int .i64 an] 23)).alloc (.cells #[.bool bi, .int .i64 bn] 23)) w.heap.size true an := (Bx.new w true an 23).keep ((Below.refl _ _).alloc (Nat.le_refl _) _)
  have x1 : Bx ((w.alloc (.cells #[.bool true, .int .i64 an] 23)).alloc (.cells #[.bool bi, .int .i64 bn] 23)) (w.heap.size + 1) bi bn := by simpa using Bx.new (w.alloc (.cells #[.bool true, .int .i64 an] 23)) bi bn 23
  have x2 : Below w.heap.size w ((w.alloc (.cells #[.bool true, .int .i64 an] 23)).alloc (.cells #[.bool bi, .int .i64 bn] 23)) := (by repeat (first | exact Below.refl _ _ | (refine Below.drew ?_) | (refine Below.setCell ?_ (by first | omega | (simp; done) | (simp; omega)) _) | (refine Below.alloc ?_ (by first | omega | (simp; done) | (simp; omega)) _) | (refine Below.trans ?_ (Below.mono (by assumption) (by first | omega | (simp; done) | (simp; omega))))))
  go_enter Try.func3, Try.ntmps3
  go_upto_region 1 with fail
  go_name_world W hW
  rw [hW] at x0 x1 x2
  clear hW
  obtain ⟨B, hB⟩ : ∃ B, B = w.heap.size := ⟨_, rfl⟩
  rw [← hB] at x0 x1 x2 ⊢
  have HB : Hid (B = w.heap.size) := hB
  clear hB
  have hcl : ∀ a b : World, (a.cell? ⟨B, 0, none⟩ = some (.bool true) ∧ a.cell? ⟨B, 1, none⟩ = some (.int .i64 an) ∧ B < a.heap.size ∧ a.cell? ⟨B + 1, 0, none⟩ = some (.bool bi) ∧ a.cell? ⟨B + 1, 1, none⟩ = some (.int .i64 bn) ∧ B + 1 < a.heap.size ∧ Below B w a) → Below a.heap.size a b → (b.cell? ⟨B, 0, none⟩ = some (.bool true) ∧ b.cell? ⟨B, 1, none⟩ = some (.int .i64 an) ∧ B < b.heap.size ∧ b.cell? ⟨B + 1, 0, none⟩ = some (.bool bi) ∧ b.cell? ⟨B + 1, 1, none⟩ = some (.int .i64 bn) ∧ B + 1 < b.heap.size ∧ Below B w b) := fun a b h hb => by
      have x0 := Bx.keep ⟨h.1, h.2.1⟩ hb
      have x1 := Bx.keep ⟨h.2.2.2.1, h.2.2.2.2.1⟩ hb
      exact ⟨x0.1, x0.2, x0.lt, x1.1, x1.2, x1.lt, h.2.2.2.2.2.2.trans (hb.mono (Nat.le_of_lt (World.block_lt_of_cell? a _ h.1)))⟩
  have hset : ∀ (b : World) (Q : Nat) (v u : Value), (B < Q ∧ B + 1 < Q) → (b.cell? ⟨B, 0, none⟩ = some (.bool true) ∧ b.cell? ⟨B, 1, none⟩ = some (.int .i64 an) ∧ B < b.heap.size ∧ b.cell? ⟨B + 1, 0, none⟩ = some (.bool bi) ∧ b.cell? ⟨B + 1, 1, none⟩ = some (.int .i64 bn) ∧ B + 1 < b.heap.size ∧ Below B w b) → (((b.setCell ⟨Q, 0, none⟩ v).setCell ⟨Q, 1, none⟩ u).cell? ⟨B, 0, none⟩ = some (.bool true) ∧ ((b.setCell ⟨Q, 0, none⟩ v).setCell ⟨Q, 1, none⟩ u).cell? ⟨B, 1, none⟩ = some (.int .i64 an) ∧ B < ((b.setCell ⟨Q, 0, none⟩ v).setCell ⟨Q, 1, none⟩ u).heap.size ∧ ((b.setCell ⟨Q, 0, none⟩ v).setCell ⟨Q, 1, none⟩ u).cell? ⟨B + 1, 0, none⟩ = some (.bool bi) ∧ ((b.setCell ⟨Q, 0, none⟩ v).setCell ⟨Q, 1, none⟩ u).cell? ⟨B + 1, 1, none⟩ = some (.int .i64 bn) ∧ B + 1 < ((b.setCell ⟨Q, 0, none⟩ v).setCell ⟨Q, 1, none⟩ u).heap.size ∧ Below B w ((b.setCell ⟨Q, 0, none⟩ v).setCell ⟨Q, 1, none⟩ u)) := fun b Q v u h h2 => by
      have x0 := Bx.set (b := b) (q := Q) h.1 ⟨h2.1, h2.2.1⟩ v u
      have x1 := Bx.set (b := b) (q := Q) h.2 ⟨h2.2.2.2.1, h2.2.2.2.2.1⟩ v u
      exact ⟨x0.1, x0.2, x0.lt, x1.1, x1.2, x1.lt, (h2.2.2.2.2.2.2.setCell (Nat.le_of_lt h.1) v).setCell (Nat.le_of_lt h.1) u⟩
  have HSET : Hid _ := hset
  clear hset
  have HCL : Hid _ := hcl
  clear hcl
  have hS0 := (⟨x0.1, x0.2, x0.lt, x1.1, x1.2, x1.lt, x2⟩ : W.cell? ⟨B, 0, none⟩ = some (.bool true) ∧ W.cell? ⟨B, 1, none⟩ = some (.int .i64 an) ∧ B < W.heap.size ∧ W.cell? ⟨B + 1, 0, none⟩ = some (.bool bi) ∧ W.cell? ⟨B + 1, 1, none⟩ = some (.int .i64 bn) ∧ B + 1 < W.heap.size ∧ Below B w W)
  have lt0 := x0.lt
  have lt1 := x1.lt
  clear x0 x1 x2
  have mk1 : ∀ (wx : World) (p : Nat), (wx.cell? ⟨B, 0, none⟩ = some (.bool true) ∧ wx.cell? ⟨B, 1, none⟩ = some (.int .i64 an) ∧ B < wx.heap.size ∧ wx.cell? ⟨B + 1, 0, none⟩ = some (.bool bi) ∧ wx.cell? ⟨B + 1, 1, none⟩ = some (.int .i64 bn) ∧ B + 1 < wx.heap.size ∧ Below B w wx) → Bx wx p (meetI true an bi bn) (meetN true an bi bn) → Hid (Bx wx B true an ∧ Bx wx (B + 1) bi bn ∧ Bx wx p (meetI true an bi bn) (meetN true an bi bn) ∧ Below B w wx) := fun wx p h1 h2 => ⟨⟨h1.1, h1.2.1⟩, ⟨h1.2.2.2.1, h1.2.2.2.2.1⟩, h2, h1.2.2.2.2.2.2⟩
  go_cut [7, 8] (fun v7 v8 wx => ∃ p, v7 = .pointer (some ⟨p, 0, none⟩) ∧ v8 = .bool (meetOk true an bi bn) ∧ Hid (Bx wx B true an ∧ Bx wx (B + 1) bi bn ∧ Bx wx p (meetI true an bi bn) (meetN true an bi bn) ∧ Below B w wx))
  case first =>
    go_region_held3 (fun w' => w'.cell? ⟨B, 0, none⟩ = some (.bool true) ∧ w'.cell? ⟨B, 1, none⟩ = some (.int .i64 an) ∧ B < w'.heap.size ∧ w'.cell? ⟨B + 1, 0, none⟩ = some (.bool bi) ∧ w'.cell? ⟨B + 1, 1, none⟩ = some (.int .i64 bn) ∧ B + 1 < w'.heap.size ∧ Below B w w')
      ((first | assumption | exact hS0 | exact hS0 _ | exact HCL.out _ _ hS0 ((Below.refl _ _).drew) | exact HCL.out _ _ (hS0 _) ((Below.refl _ _).drew) | exact HCL.out _ _ (by assumption) ((Below.refl _ _).drew) | exact HCL.out _ _ (by assumption) ((Below.refl _ _).alloc (Nat.le_refl _) _) | exact HCL.out _ _ (by assumption) (((Below.refl _ _).alloc (Nat.le_refl _) _).alloc (by simp) _) | exact HSET.out _ _ _ _ (by omega) (by assumption)))
      ((first
        | (go_at_call 8; refine (to_any _ _ _).mono ?_; rintro e w2 ⟨rfl, o1, o2, rfl⟩)
        | (go_at_call 7; refine (liftw (meet_any _ _ _ _ _) (by assumption) HCL.out).mono ?_; rintro e w2 ⟨rfl, h2, hc2, hf2, hl2⟩)
        | fail))
    all_goals (go_wp2; go_meet; case rel => exact ⟨_, rfl, rfl, mk1 _ _ (by assumption) (by first | exact Bx.new _ _ _ _ | exact Bx.wrote (v := .bool false) (u := .int .i64 0) ((hc2 _ _ (by simp; try omega)).trans (by simp [go_sem])) ((hc2 _ _ (by simp; try omega)).trans (by simp [go_sem])))⟩)
  case rest =>
    obtain ⟨p, rfl, rfl, HH⟩ := hcut
    clear mk1 hS0 lt0 lt1 HCL HSET
    obtain ⟨y0, y1, y2, y3⟩ := HH.out
    clear HH
    have c0 := y0.1
    have c1 := y0.2
    have c2 := y1.1
    have c3 := y1.2
    go_wp2_with (go_at_call 9; refine (meetr_any _ _ _ _ _).mono ?_; rintro e w3 ⟨rfl, hb3⟩)
    clear c0 c1 c2 c3
    have z0 := (y0.keep hb3).keep ((Below.refl _ _).alloc (Nat.le_refl _) (.cells #[.bool (meetI true an bi bn), .int .i64 (meetN true an bi bn)] 23))
    have z1 := (y1.keep hb3).keep ((Below.refl _ _).alloc (Nat.le_refl _) (.cells #[.bool (meetI true an bi bn), .int .i64 (meetN true an bi bn)] 23))
    have z2 := (y2.keep hb3).keep ((Below.refl _ _).alloc (Nat.le_refl _) (.cells #[.bool (meetI true an bi bn), .int .i64 (meetN true an bi bn)] 23))
    have z3 := Bx.new w3 (meetI true an bi bn) (meetN true an bi bn) 23
    have z4 := (y3.trans (hb3.mono (Nat.le_of_lt y0.lt))).alloc (Nat.le_of_lt (y0.keep hb3).lt) (.cells #[.bool (meetI true an bi bn), .int .i64 (meetN true an bi bn)] 23)
    go_name_world W3 hW3
    rw [hW3] at z0 z1 z2 z3 z4
    generalize w3.heap.size = q at *
    clear hW3 hb3 y0 y1 y2 y3
    have hcl : ∀ a b : World, (a.cell? ⟨B, 0, none⟩ = some (.bool true) ∧ a.cell? ⟨B, 1, none⟩ = some (.int .i64 an) ∧ B < a.heap.size ∧ a.cell? ⟨B + 1, 0, none⟩ = some (.bool bi) ∧ a.cell? ⟨B + 1, 1, none⟩ = some (.int .i64 bn) ∧ B + 1 < a.heap.size ∧ a.cell? ⟨p, 0, none⟩ = some (.bool (meetI true an bi bn)) ∧ a.cell? ⟨p, 1, none⟩ = some (.int .i64 (meetN true an bi bn)) ∧ p < a.heap.size ∧ a.cell? ⟨q, 0, none⟩ = some (.bool (meetI true an bi bn)) ∧ a.cell? ⟨q, 1, none⟩ = some (.int .i64 (meetN true an bi bn)) ∧ q < a.heap.size ∧ Below B w a) → Below a.heap.size a b → (b.cell? ⟨B, 0, none⟩ = some (.bool true) ∧ b.cell? ⟨B, 1, none⟩ = some (.int .i64 an) ∧ B < b.heap.size ∧ b.cell? ⟨B + 1, 0, none⟩ = some (.bool bi) ∧ b.cell? ⟨B + 1, 1, none⟩ = some (.int .i64 bn) ∧ B + 1 < b.heap.size ∧ b.cell? ⟨p, 0, none⟩ = some (.bool (meetI true an bi bn)) ∧ b.cell? ⟨p, 1, none⟩ = some (.int .i64 (meetN true an bi bn)) ∧ p < b.heap.size ∧ b.cell? ⟨q, 0, none⟩ = some (.bool (meetI true an bi bn)) ∧ b.cell? ⟨q, 1, none⟩ = some (.int .i64 (meetN true an bi bn)) ∧ q < b.heap.size ∧ Below B w b) := fun a b h hb => by
        have x0 := Bx.keep ⟨h.1, h.2.1⟩ hb
        have x1 := Bx.keep ⟨h.2.2.2.1, h.2.2.2.2.1⟩ hb
        have x2 := Bx.keep ⟨h.2.2.2.2.2.2.1, h.2.2.2.2.2.2.2.1⟩ hb
        have x3 := Bx.keep ⟨h.2.2.2.2.2.2.2.2.2.1, h.2.2.2.2.2.2.2.2.2.2.1⟩ hb
        exact ⟨x0.1, x0.2, x0.lt, x1.1, x1.2, x1.lt, x2.1, x2.2, x2.lt, x3.1, x3.2, x3.lt, h.2.2.2.2.2.2.2.2.2.2.2.2.trans (hb.mono (Nat.le_of_lt (World.block_lt_of_cell? a _ h.1)))⟩
    have hset : ∀ (b : World) (Q : Nat) (v u : Value), (B < Q ∧ B + 1 < Q ∧ p < Q ∧ q < Q) → (b.cell? ⟨B, 0, none⟩ = some (.bool true) ∧ b.cell? ⟨B, 1, none⟩ = some (.int .i64 an) ∧ B < b.heap.size ∧ b.cell? ⟨B + 1, 0, none⟩ = some (.bool bi) ∧ b.cell? ⟨B + 1, 1, none⟩ = some (.int .i64 bn) ∧ B + 1 < b.heap.size ∧ b.cell? ⟨p, 0, none⟩ = some (.bool (meetI true an bi bn)) ∧ b.cell? ⟨p, 1, none⟩ = some (.int .i64 (meetN true an bi bn)) ∧ p < b.heap.size ∧ b.cell? ⟨q, 0, none⟩ = some (.bool (meetI true an bi bn)) ∧ b.cell? ⟨q, 1, none⟩ = some (.int .i64 (meetN true an bi bn)) ∧ q < b.heap.size ∧ Below B w b) → (((b.setCell ⟨Q, 0, none⟩ v).setCell ⟨Q, 1, none⟩ u).cell? ⟨B, 0, none⟩ = some (.bool true) ∧ ((b.setCell ⟨Q, 0, none⟩ v).setCell ⟨Q, 1, none⟩ u).cell? ⟨B, 1, none⟩ = some (.int .i64 an) ∧ B < ((b.setCell ⟨Q, 0, none⟩ v).setCell ⟨Q, 1, none⟩ u).heap.size ∧ ((b.setCell ⟨Q, 0, none⟩ v).setCell ⟨Q, 1, none⟩ u).cell? ⟨B + 1, 0, none⟩ = some (.bool bi) ∧ ((b.setCell ⟨Q, 0, none⟩ v).setCell ⟨Q, 1, none⟩ u).cell? ⟨B + 1, 1, none⟩ = some (.int .i64 bn) ∧ B + 1 < ((b.setCell ⟨Q, 0, none⟩ v).setCell ⟨Q, 1, none⟩ u).heap.size ∧ ((b.setCell ⟨Q, 0, none⟩ v).setCell ⟨Q, 1, none⟩ u).cell? ⟨p, 0, none⟩ = some (.bool (meetI true an bi bn)) ∧ ((b.setCell ⟨Q, 0, none⟩ v).setCell ⟨Q, 1, none⟩ u).cell? ⟨p, 1, none⟩ = some (.int .i64 (meetN true an bi bn)) ∧ p < ((b.setCell ⟨Q, 0, none⟩ v).setCell ⟨Q, 1, none⟩ u).heap.size ∧ ((b.setCell ⟨Q, 0, none⟩ v).setCell ⟨Q, 1, none⟩ u).cell? ⟨q, 0, none⟩ = some (.bool (meetI true an bi bn)) ∧ ((b.setCell ⟨Q, 0, none⟩ v).setCell ⟨Q, 1, none⟩ u).cell? ⟨q, 1, none⟩ = some (.int .i64 (meetN true an bi bn)) ∧ q < ((b.setCell ⟨Q, 0, none⟩ v).setCell ⟨Q, 1, none⟩ u).heap.size ∧ Below B w ((b.setCell ⟨Q, 0, none⟩ v).setCell ⟨Q, 1, none⟩ u)) := fun b Q v u h h2 => by
        have x0 := Bx.set (b := b) (q := Q) h.1 ⟨h2.1, h2.2.1⟩ v u
        have x1 := Bx.set (b := b) (q := Q) h.2.1 ⟨h2.2.2.2.1, h2.2.2.2.2.1⟩ v u
        have x2 := Bx.set (b := b) (q := Q) h.2.2.1 ⟨h2.2.2.2.2.2.2.1, h2.2.2.2.2.2.2.2.1⟩ v u
        have x3 := Bx.set (b := b) (q := Q) h.2.2.2 ⟨h2.2.2.2.2.2.2.2.2.2.1, h2.2.2.2.2.2.2.2.2.2.2.1⟩ v u
        exact ⟨x0.1, x0.2, x0.lt, x1.1, x1.2, x1.lt, x2.1, x2.2, x2.lt, x3.1, x3.2, x3.lt, (h2.2.2.2.2.2.2.2.2.2.2.2.2.setCell (Nat.le_of_lt h.1) v).setCell (Nat.le_of_lt h.1) u⟩
    have HSET : Hid _ := hset
    clear hset
    have HCL : Hid _ := hcl
    clear hcl
    have hS0 := (⟨z0.1, z0.2, z0.lt, z1.1, z1.2, z1.lt, z2.1, z2.2, z2.lt, z3.1, z3.2, z3.lt, z4⟩ : W3.cell? ⟨B, 0, none⟩ = some (.bool true) ∧ W3.cell? ⟨B, 1, none⟩ = some (.int .i64 an) ∧ B < W3.heap.size ∧ W3.cell? ⟨B + 1, 0, none⟩ = some (.bool bi) ∧ W3.cell? ⟨B + 1, 1, none⟩ = some (.int .i64 bn) ∧ B + 1 < W3.heap.size ∧ W3.cell? ⟨p, 0, none⟩ = some (.bool (meetI true an bi bn)) ∧ W3.cell? ⟨p, 1, none⟩ = some (.int .i64 (meetN true an bi bn)) ∧ p < W3.heap.size ∧ W3.cell? ⟨q, 0, none⟩ = some (.bool (meetI true an bi bn)) ∧ W3.cell? ⟨q, 1, none⟩ = some (.int .i64 (meetN true an bi bn)) ∧ q < W3.heap.size ∧ Below B w W3)
    clear z0 z1 z2 z3 z4
    have r0 : rightK true an = true := rfl
    have r1 : rightK false an = (an == 0) := rfl
    go_cut [50] (fun v wx => v = .bool false ∧ Hid (wx.cell? ⟨B, 0, none⟩ = some (.bool true) ∧ wx.cell? ⟨B, 1, none⟩ = some (.int .i64 an) ∧ B < wx.heap.size ∧ wx.cell? ⟨B + 1, 0, none⟩ = some (.bool bi) ∧ wx.cell? ⟨B + 1, 1, none⟩ = some (.int .i64 bn) ∧ B + 1 < wx.heap.size ∧ wx.cell? ⟨p, 0, none⟩ = some (.bool (meetI true an bi bn)) ∧ wx.cell? ⟨p, 1, none⟩ = some (.int .i64 (meetN true an bi bn)) ∧ p < wx.heap.size ∧ wx.cell? ⟨q, 0, none⟩ = some (.bool (meetI true an bi bn)) ∧ wx.cell? ⟨q, 1, none⟩ = some (.int .i64 (meetN true an bi bn)) ∧ q < wx.heap.size ∧ Below B w wx))
    case first =>
      refine wp_region_held_drew (S := fun w' => w'.cell? ⟨B, 0, none⟩ = some (.bool true) ∧ w'.cell? ⟨B, 1, none⟩ = some (.int .i64 an) ∧ B < w'.heap.size ∧ w'.cell? ⟨B + 1, 0, none⟩ = some (.bool bi) ∧ w'.cell? ⟨B + 1, 1, none⟩ = some (.int .i64 bn) ∧ B + 1 < w'.heap.size ∧ w'.cell? ⟨p, 0, none⟩ = some (.bool (meetI true an bi bn)) ∧ w'.cell? ⟨p, 1, none⟩ = some (.int .i64 (meetN true an bi bn)) ∧ p < w'.heap.size ∧ w'.cell? ⟨q, 0, none⟩ = some (.bool (meetI true an bi bn)) ∧ w'.cell? ⟨q, 1, none⟩ = some (.int .i64 (meetN true an bi bn)) ∧ q < w'.heap.size ∧ Below B w w') (by kernel_rfl) (HCL.out _ _ hS0 ((Below.refl _ _).drew)) (fun hHeld => ?_)
      refine wpAnyH_ready (rs := [0]) (by kernel_rfl) (by simp) ?_
      refine AllReadyH.cons (o := { dst := some 25, op := Op.call { callee := Callee.value (Operand.func 10), args := #[], argTypes := #[] }, type := 4, pos := "law.go:27", after := #[], guard := none }) rfl (fun K hK => ?_) AllReadyH.nil
      go_simp
      go_at_call 10
      refine (lift (told_any _) (by assumption) HCL.out).mono ?_
      rintro e w2 ⟨rfl, h2⟩
      refine hK.out _ _ h2 (fun hHeld => ?_)
      clear hK K
      refine wpAnyH_take (i := 1) (oi := { dst := some 26, op := Op.unOp UnOp.not 4 (Operand.tmp 25), type := 4, pos := "law.go:27", after := #[{ on := 0, ground := Ground.data }], guard := none }) (v := ?_) rfl (by kernel_rfl) (by kernel_rfl) (by kernel_rfl) (fun _ _ _ h => h) (Or.inl ⟨by rfl, ?_⟩) (by assumption) ?_
      rotate_left
      · (intro wz hSw; (try dsimp only at hSw); go_simp; try with_reducible rfl)
      simp only [Act.put, List.setIfInBounds_toArray, List.set_cons_zero, List.set_cons_succ]
      refine wpAnyH_take (i := 2) (oi := { dst := some 27, op := Op.move (Operand.tmp 26), type := 4, pos := "law.go:27", after := #[{ on := 1, ground := Ground.data }, { on := 0, ground := Ground.chain }], guard := none }) (v := ?_) rfl (by kernel_rfl) (by kernel_rfl) (by kernel_rfl) (fun _ _ _ h => h) (Or.inl ⟨by rfl, ?_⟩) (by assumption) ?_
      rotate_left
      · (intro wz hSw; (try dsimp only at hSw); go_simp; try with_reducible rfl)
      simp only [Act.put, List.setIfInBounds_toArray, List.set_cons_zero, List.set_cons_succ]
      refine wpAnyH_take (i := 3) (oi := { dst := some 28, op := Op.load 24 (Operand.tmp 7), type := 24, pos := "law.go:27", after := #[{ on := 2, ground := Ground.guard }], guard := some (2, false) }) (v := ?_) rfl (by kernel_rfl) (by kernel_rfl) (by kernel_rfl) (fun _ _ _ h => h) (Or.inl ⟨by rfl, ?_⟩) (by assumption) ?_
      rotate_left
      · (intro wz hSw; (try dsimp only at hSw); go_simp; try with_reducible rfl)
      simp only [Act.put, List.setIfInBounds_toArray, List.set_cons_zero, List.set_cons_succ]
      refine wpAnyH_take (i := 5) (oi := { dst := some 30, op := Op.load 23 (Operand.tmp 9), type := 23, pos := "law.go:27", after := #[{ on := 2, ground := Ground.guard }], guard := some (2, false) }) (v := ?_) rfl (by kernel_rfl) (by kernel_rfl) (by kernel_rfl) (fun _ _ _ h => h) (Or.inl ⟨by rfl, ?_⟩) (by assumption) ?_
      rotate_left
      · (intro wz hSw; (try dsimp only at hSw); go_simp; try with_reducible rfl)
      simp only [Act.put, List.setIfInBounds_toArray, List.set_cons_zero, List.set_cons_succ]
      refine wpAnyH_ready (rs := [4]) (by kernel_rfl) (by simp) ?_
      refine AllReadyH.cons (o := { dst := some 29, op := Op.call { callee := Callee.value (Operand.func 11), args := #[Operand.tmp 28], argTypes := #[24] }, type := 23, pos := "law.go:27", after := #[{ on := 3, ground := Ground.data }, { on := 2, ground := Ground.chain }, { on := 2, ground := Ground.guard }], guard := some (2, false) }) rfl (fun K hK => ?_) AllReadyH.nil
      go_simp
      go_at_call 11
      refine (lift (bel2 (from_any _ _ _)) (by assumption) HCL.out).mono ?_
      rintro e w2 ⟨rfl, h2⟩
      refine hK.out _ _ h2 (fun hHeld => ?_)
      clear hK K
      refine wpAnyH_take (i := 6) (oi := { dst := some 31, op := Op.binOp BinOp.neq 23 (Operand.tmp 29) (Operand.tmp 30) 23, type := 4, pos := "law.go:27", after := #[{ on := 4, ground := Ground.data }, { on := 5, ground := Ground.data }, { on := 2, ground := Ground.guard }], guard := some (2, false) }) (v := ?_) rfl (by kernel_rfl) (by kernel_rfl) (by kernel_rfl) (fun _ _ _ h => h) (Or.inl ⟨by rfl, ?_⟩) (by assumption) ?_
      rotate_left
      · (intro wz hSw; (try dsimp only at hSw); go_simp; try with_reducible rfl)
      simp only [Act.put, List.setIfInBounds_toArray, List.set_cons_zero, List.set_cons_succ]
      refine wpAnyH_take (i := 7) (oi := { dst := some 32, op := Op.pick (Operand.tmp 27) (Operand.const (Value.bool true)) (Operand.tmp 31), type := 4, pos := "law.go:27", after := #[{ on := 2, ground := Ground.data }, { on := 6, ground := Ground.data }], guard := none }) (v := ?_) rfl (by kernel_rfl) (by kernel_rfl) (by kernel_rfl) (fun _ _ _ h => h) (Or.inl ⟨by rfl, ?_⟩) (by assumption) ?_
      rotate_left
      · (intro wz hSw; (try dsimp only at hSw); go_simp; try with_reducible rfl)
      simp only [Act.put, List.setIfInBounds_toArray, List.set_cons_zero, List.set_cons_succ]
      refine wpAnyH_take (i := 8) (oi := { dst := some 33, op := Op.move (Operand.tmp 32), type := 4, pos := "law.go:27", after := #[{ on := 7, ground := Ground.data }, { on := 4, ground := Ground.chain }], guard := none }) (v := ?_) rfl (by kernel_rfl) (by kernel_rfl) (by kernel_rfl) (fun _ _ _ h => h) (Or.inl ⟨by rfl, ?_⟩) (by assumption) ?_
      rotate_left
      · (intro wz hSw; (try dsimp only at hSw); go_simp; try with_reducible rfl)
      simp only [Act.put, List.setIfInBounds_toArray, List.set_cons_zero, List.set_cons_succ]
      refine wpAnyH_take (i := 9) (oi := { dst := some 34, op := Op.move (Operand.tmp 8), type := 4, pos := "law.go:27", after := #[{ on := 8, ground := Ground.guard }], guard := some (8, false) }) (v := ?_) rfl (by kernel_rfl) (by kernel_rfl) (by kernel_rfl) (fun _ _ _ h => h) (Or.inl ⟨by rfl, ?_⟩) (by assumption) ?_
      rotate_left
      · (intro wz hSw; (try dsimp only at hSw); go_simp; try with_reducible rfl)
      simp only [Act.put, List.setIfInBounds_toArray, List.set_cons_zero, List.set_cons_succ]
      refine wpAnyH_take (i := 10) (oi := { dst := some 35, op := Op.move (Operand.tmp 10), type := 4, pos := "law.go:27", after := #[{ on := 8, ground := Ground.guard }], guard := some (8, false) }) (v := ?_) rfl (by kernel_rfl) (by kernel_rfl) (by kernel_rfl) (fun _ _ _ h => h) (Or.inl ⟨by rfl, ?_⟩) (by assumption) ?_
      rotate_left
      · (intro wz hSw; (try dsimp only at hSw); go_simp; try with_reducible rfl)
      simp only [Act.put, List.setIfInBounds_toArray, List.set_cons_zero, List.set_cons_succ]
      refine wpAnyH_take (i := 11) (oi := { dst := some 36, op := Op.binOp BinOp.neq 4 (Operand.tmp 34) (Operand.tmp 35) 4, type := 4, pos := "law.go:27", after := #[{ on := 9, ground := Ground.data }, { on := 10, ground := Ground.data }, { on := 8, ground := Ground.guard }], guard := some (8, false) }) (v := ?_) rfl (by kernel_rfl) (by kernel_rfl) (by kernel_rfl) (fun _ _ _ h => h) (Or.inl ⟨by rfl, ?_⟩) (by assumption) ?_
      rotate_left
      · (intro wz hSw; (try dsimp only at hSw); go_simp; try with_reducible rfl)
      simp only [Act.put, List.setIfInBounds_toArray, List.set_cons_zero, List.set_cons_succ]
      refine wpAnyH_take (i := 12) (oi := { dst := some 37, op := Op.pick (Operand.tmp 33) (Operand.const (Value.bool true)) (Operand.tmp 36), type := 4, pos := "law.go:27", after := #[{ on := 8, ground := Ground.data }, { on := 11, ground := Ground.data }], guard := none }) (v := ?_) rfl (by kernel_rfl) (by kernel_rfl) (by kernel_rfl) (fun _ _ _ h => h) (Or.inl ⟨by rfl, ?_⟩) (by assumption) ?_
      rotate_left
      · (intro wz hSw; (try dsimp only at hSw); go_simp; try with_reducible rfl)
      simp only [Act.put, List.setIfInBounds_toArray, List.set_cons_zero, List.set_cons_succ]
      refine wpAnyH_take (i := 13) (oi := { dst := some 38, op := Op.move (Operand.tmp 37), type := 4, pos := "law.go:27", after := #[{ on := 12, ground := Ground.data }, { on := 8, ground := Ground.chain }], guard := none }) (v := ?_) rfl (by kernel_rfl) (by kernel_rfl) (by kernel_rfl) (fun _ _ _ h => h) (Or.inl ⟨by rfl, ?_⟩) (by assumption) ?_
      rotate_left
      · (intro wz hSw; (try dsimp only at hSw); go_simp; try with_reducible rfl)
      simp only [Act.put, List.setIfInBounds_toArray, List.set_cons_zero, List.set_cons_succ]
      refine wpAnyH_take (i := 14) (oi := { dst := some 39, op := Op.load 23 (Operand.tmp 3), type := 23, pos := "law.go:27", after := #[{ on := 13, ground := Ground.guard }], guard := some (13, false) }) (v := ?_) rfl (by kernel_rfl) (by kernel_rfl) (by kernel_rfl) (fun _ _ _ h => h) (Or.inl ⟨by rfl, ?_⟩) (by assumption) ?_
      rotate_left
      · (intro wz hSw; (try dsimp only at hSw); go_simp; try with_reducible rfl)
      simp only [Act.put, List.setIfInBounds_toArray, List.set_cons_zero, List.set_cons_succ]
      refine wpAnyH_take (i := 17) (oi := { dst := some 42, op := Op.fieldAddr 23 (Operand.tmp 3) 0, type := 0, pos := "law.go:27", after := #[{ on := 13, ground := Ground.guard }], guard := some (13, false) }) (v := ?_) rfl (by kernel_rfl) (by kernel_rfl) (by kernel_rfl) (fun _ _ _ h => h) (Or.inl ⟨by rfl, ?_⟩) (by assumption) ?_
      rotate_left
      · (intro wz hSw; (try dsimp only at hSw); go_simp; try with_reducible rfl)
      simp only [Act.put, List.setIfInBounds_toArray, List.set_cons_zero, List.set_cons_succ]
      refine wpAnyH_take (i := 18) (oi := { dst := some 43, op := Op.load 4 (Operand.tmp 42), type := 4, pos := "law.go:27", after := #[{ on := 17, ground := Ground.data }, { on := 13, ground := Ground.guard }], guard := some (13, false) }) (v := ?_) rfl (by kernel_rfl) (by kernel_rfl) (by kernel_rfl) (fun _ _ _ h => h) (Or.inl ⟨by rfl, ?_⟩) (by assumption) ?_
      rotate_left
      · (intro wz hSw; (try dsimp only at hSw); go_simp; try with_reducible rfl)
      simp only [Act.put, List.setIfInBounds_toArray, List.set_cons_zero, List.set_cons_succ]
      refine wpAnyH_ready (rs := [15]) (by kernel_rfl) (by simp) ?_
      refine AllReadyH.cons (o := { dst := some 40, op := Op.call { callee := Callee.value (Operand.func 8), args := #[Operand.tmp 39], argTypes := #[23] }, type := 24, pos := "law.go:27", after := #[{ on := 14, ground := Ground.data }, { on := 13, ground := Ground.chain }, { on := 13, ground := Ground.guard }], guard := some (13, false) }) rfl (fun K hK => ?_) AllReadyH.nil
      go_simp
      go_at_call 8
      refine (lift (bel2 (to_any _ _ _)) (by assumption) HCL.out).mono ?_
      rintro e w2 ⟨rfl, h2⟩
      refine hK.out _ _ h2 (fun hHeld => ?_)
      clear hK K
      refine wpAnyH_ready (rs := [16]) (by kernel_rfl) (by simp) ?_
      refine AllReadyH.cons (o := { dst := some 41, op := Op.call { callee := Callee.value (Operand.func 12), args := #[Operand.tmp 40], argTypes := #[24] }, type := 4, pos := "law.go:27", after := #[{ on := 15, ground := Ground.data }, { on := 15, ground := Ground.chain }, { on := 13, ground := Ground.guard }], guard := some (13, false) }) rfl (fun K hK => ?_) AllReadyH.nil
      go_simp
      go_at_call 12
      refine (lift (bel1 (right_any _ _ _)) (by assumption) HCL.out).mono ?_
      rintro e w2 ⟨rfl, h2⟩
      refine hK.out _ _ h2 (fun hHeld => ?_)
      clear hK K
      refine wpAnyH_take (i := 19) (oi := { dst := some 44, op := Op.move (Operand.tmp 43), type := 4, pos := "law.go:27", after := #[{ on := 18, ground := Ground.data }, { on := 16, ground := Ground.chain }, { on := 13, ground := Ground.guard }], guard := some (13, false) }) (v := ?_) rfl (by kernel_rfl) (by kernel_rfl) (by kernel_rfl) (fun _ _ _ h => h) (Or.inl ⟨by rfl, ?_⟩) (by assumption) ?_
      rotate_left
      · (intro wz hSw; (try dsimp only at hSw); go_simp; try with_reducible rfl)
      simp only [Act.put, List.setIfInBounds_toArray, List.set_cons_zero, List.set_cons_succ]
      refine wpAnyH_take (i := 20) (oi := { dst := some 45, op := Op.fieldAddr 23 (Operand.tmp 3) 1, type := 0, pos := "law.go:27", after := #[{ on := 19, ground := Ground.guard }], guard := some (19, false) }) (v := undef) rfl (by kernel_rfl) (by kernel_rfl) (by kernel_rfl) (fun _ _ _ h => h) (Or.inr ⟨by rfl, rfl⟩) (by assumption) ?_
      simp only [Act.put, List.setIfInBounds_toArray, List.set_cons_zero, List.set_cons_succ]
      refine wpAnyH_take (i := 21) (oi := { dst := some 46, op := Op.load 2 (Operand.tmp 45), type := 2, pos := "law.go:27", after := #[{ on := 20, ground := Ground.data }, { on := 19, ground := Ground.guard }], guard := some (19, false) }) (v := undef) rfl (by kernel_rfl) (by kernel_rfl) (by kernel_rfl) (fun _ _ _ h => h) (Or.inr ⟨by rfl, rfl⟩) (by assumption) ?_
      simp only [Act.put, List.setIfInBounds_toArray, List.set_cons_zero, List.set_cons_succ]
      refine wpAnyH_take (i := 22) (oi := { dst := some 47, op := Op.binOp BinOp.eql 2 (Operand.tmp 46) (Operand.const (Value.int IntKind.i64 0)) 2, type := 4, pos := "law.go:27", after := #[{ on := 21, ground := Ground.data }, { on := 19, ground := Ground.guard }], guard := some (19, false) }) (v := undef) rfl (by kernel_rfl) (by kernel_rfl) (by kernel_rfl) (fun _ _ _ h => h) (Or.inr ⟨by rfl, rfl⟩) (by assumption) ?_
      simp only [Act.put, List.setIfInBounds_toArray, List.set_cons_zero, List.set_cons_succ]
      refine wpAnyH_take (i := 23) (oi := { dst := some 48, op := Op.pick (Operand.tmp 44) (Operand.const (Value.bool true)) (Operand.tmp 47), type := 4, pos := "law.go:27", after := #[{ on := 19, ground := Ground.data }, { on := 22, ground := Ground.data }, { on := 13, ground := Ground.guard }], guard := some (13, false) }) (v := ?_) rfl (by kernel_rfl) (by kernel_rfl) (by kernel_rfl) (fun _ _ _ h => h) (Or.inl ⟨by rfl, ?_⟩) (by assumption) ?_
      rotate_left
      · (intro wz hSw; (try dsimp only at hSw); go_simp; try with_reducible rfl)
      simp only [Act.put, List.setIfInBounds_toArray, List.set_cons_zero, List.set_cons_succ]
      refine wpAnyH_take (i := 24) (oi := { dst := some 49, op := Op.binOp BinOp.neq 4 (Operand.tmp 41) (Operand.tmp 48) 4, type := 4, pos := "law.go:27", after := #[{ on := 16, ground := Ground.data }, { on := 23, ground := Ground.data }, { on := 13, ground := Ground.guard }], guard := some (13, false) }) (v := ?_) rfl (by kernel_rfl) (by kernel_rfl) (by kernel_rfl) (fun _ _ _ h => h) (Or.inl ⟨by rfl, ?_⟩) (by assumption) ?_
      rotate_left
      · (intro wz hSw; (try dsimp only at hSw); go_simp; try with_reducible rfl)
      simp only [Act.put, List.setIfInBounds_toArray, List.set_cons_zero, List.set_cons_succ]
      refine wpAnyH_take (i := 25) (oi := { dst := some 50, op := Op.pick (Operand.tmp 38) (Operand.const (Value.bool true)) (Operand.tmp 49), type := 4, pos := "law.go:27", after := #[{ on := 13, ground := Ground.data }, { on := 24, ground := Ground.data }], guard := none }) (v := ?_) rfl (by kernel_rfl) (by kernel_rfl) (by kernel_rfl) (fun _ _ _ h => h) (Or.inl ⟨by rfl, ?_⟩) (by assumption) ?_
      rotate_left
      · (intro wz hSw; (try dsimp only at hSw); go_simp; try with_reducible rfl)
      simp only [Act.put, List.setIfInBounds_toArray, List.set_cons_zero, List.set_cons_succ]
      refine wpAnyH_done (by kernel_rfl) ?_ _
      all_goals (go_wp2; go_meet; case rel => exact ⟨rfl, by assumption⟩)
    case rest =>
      obtain ⟨rfl, HS⟩ := hcut
      clear hS0
      have hS0 := HS.out
      clear HS
      have mk3 : ∀ wx : World, (wx.cell? ⟨B, 0, none⟩ = some (.bool true) ∧ wx.cell? ⟨B, 1, none⟩ = some (.int .i64 an) ∧ B < wx.heap.size ∧ wx.cell? ⟨B + 1, 0, none⟩ = some (.bool bi) ∧ wx.cell? ⟨B + 1, 1, none⟩ = some (.int .i64 bn) ∧ B + 1 < wx.heap.size ∧ wx.cell? ⟨p, 0, none⟩ = some (.bool (meetI true an bi bn)) ∧ wx.cell? ⟨p, 1, none⟩ = some (.int .i64 (meetN true an bi bn)) ∧ p < wx.heap.size ∧ wx.cell? ⟨q, 0, none⟩ = some (.bool (meetI true an bi bn)) ∧ wx.cell? ⟨q, 1, none⟩ = some (.int .i64 (meetN true an bi bn)) ∧ q < wx.heap.size ∧ Below B w wx) → Below w.heap.size w wx := fun wx h => by
        have h' := h.2.2.2.2.2.2.2.2.2.2.2.2
        rwa [HB.out] at h'
      go_wp2_with fail
      first
        | (go_region_held3 (fun w' => w'.cell? ⟨B, 0, none⟩ = some (.bool true) ∧ w'.cell? ⟨B, 1, none⟩ = some (.int .i64 an) ∧ B < w'.heap.size ∧ w'.cell? ⟨B + 1, 0, none⟩ = some (.bool bi) ∧ w'.cell? ⟨B + 1, 1, none⟩ = some (.int .i64 bn) ∧ B + 1 < w'.heap.size ∧ w'.cell? ⟨p, 0, none⟩ = some (.bool (meetI true an bi bn)) ∧ w'.cell? ⟨p, 1, none⟩ = some (.int .i64 (meetN true an bi bn)) ∧ p < w'.heap.size ∧ w'.cell? ⟨q, 0, none⟩ = some (.bool (meetI true an bi bn)) ∧ w'.cell? ⟨q, 1, none⟩ = some (.int .i64 (meetN true an bi bn)) ∧ q < w'.heap.size ∧ Below B w w')
          ((first | assumption | exact hS0 | exact hS0 _ | exact HCL.out _ _ hS0 ((Below.refl _ _).drew) | exact HCL.out _ _ (hS0 _) ((Below.refl _ _).drew) | exact HCL.out _ _ (by assumption) ((Below.refl _ _).drew) | exact HCL.out _ _ (by assumption) ((Below.refl _ _).alloc (Nat.le_refl _) _) | exact HCL.out _ _ (by assumption) (((Below.refl _ _).alloc (Nat.le_refl _) _).alloc (by simp) _) | exact HSET.out _ _ _ _ (by omega) (by assumption)))
          ((first
            | (go_at_call 13; refine (lift (bel1 (of_any _ _)) (by assumption) HCL.out).mono ?_; rintro e w2 ⟨rfl, h2⟩)
            | (go_at_call 11; refine (lift (bel2 (from_any _ _ _)) (by assumption) HCL.out).mono ?_; rintro e w2 ⟨rfl, h2⟩)
            | (go_at_call 14; refine (lift (bel1 (any_any _)) (by assumption) HCL.out).mono ?_; rintro e w2 ⟨rfl, h2⟩)
            | (go_at_call 8; refine (lift (bel2 (to_any _ _ _)) (by assumption) HCL.out).mono ?_; rintro e w2 ⟨rfl, h2⟩)
            | (go_at_call 15; refine (lift (bel1 (has_any _ _ _ _)) (by assumption) HCL.out).mono ?_; rintro e w2 ⟨rfl, h2⟩)
            | (go_at_call 16; refine (lift (bel1 (hasr_any _ _ _ _)) (by assumption) HCL.out).mono ?_; rintro e w2 ⟨rfl, h2⟩)
            | (go_at_call 17; refine (lift (join_any _ _ _ _ _) (by assumption) HCL.out).mono ?_; rintro e w2 ⟨rfl, h2⟩)
            | (go_at_call 18; refine (lift (joinr_any _ _ _ _ _) (by assumption) HCL.out).mono ?_; rintro e w2 ⟨rfl, h2⟩)
            | (go_at_call 19; refine (lift (within_any _ _ _ _ _) (by assumption) HCL.out).mono ?_; rintro e w2 ⟨rfl, h2⟩)
            | (go_at_call 20; refine (lift (withinr_any _ _ _ _ _) (by assumption) HCL.out).mono ?_; rintro e w2 ⟨rfl, h2⟩)
            | fail)))
        | fail
      all_goals (go_wp2; go_ret; exact ⟨rfl, mk3 _ (by assumption)⟩)
end Go.Proofs.Ytmpmefnaepnfnaa
