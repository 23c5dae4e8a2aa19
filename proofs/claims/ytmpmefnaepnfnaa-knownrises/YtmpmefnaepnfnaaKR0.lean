import Derived.Test.YtmpmefnaepnfnaaKS0
namespace Go.Proofs.Ytmpmefnaepnfnaa
open Go.RowKit
theorem rises1 (op : Int) (ai : Bool) (an : Int) (bi : Bool) (bn : Int) (h : twoOk op bi bn = true) : twoOk op false 0 = true ∧ withinK (twoI op ai bi bn) (twoN op ai an bi bn) (twoI op false bi bn) (twoN op false 0 bi bn) = true ∧ withinK (twoI op ai bi bn) (twoN op ai an bi bn) (twoI op ai false 0) (twoN op ai an false 0) = true := by
  have h0 : twoOk op false 0 = true := by
    simp [twoOk] at h ⊢
    omega
  refine ⟨h0, ?_, ?_⟩
  · simp [withinK, twoI]
  · simp [withinK, twoI]
theorem rises2 (ai : Bool) (an : Int) (bi : Bool) (bn : Int) (h : meetOk ai an bi bn = true) : withinK (meetI ai an bi bn) (meetN ai an bi bn) ai an = true ∧ withinK (meetI ai an bi bn) (meetN ai an bi bn) bi bn = true := by
  cases ai <;> cases bi <;> simp_all [withinK, meetI, meetN, meetOk]
theorem rises3 (ai : Bool) (an : Int) (bi : Bool) (bn : Int) : withinK ai an (joinI ai an bi bn) (joinN ai an bi bn) = true ∧ withinK bi bn (joinI ai an bi bn) (joinN ai an bi bn) = true := by
  by_cases h : an = bn
  · subst h; cases ai <;> cases bi <;> simp [withinK, joinI, joinN]
  · cases ai <;> cases bi <;> simp [withinK, joinI, joinN, h]
set_option maxRecDepth 100000 in
set_option maxHeartbeats 8000000 in
theorem krises_walk (op : Int) (ai : Bool) (an : Int) (bi : Bool) (bn : Int) (w : World) (ha : i64 an) (hb : i64 bn) : Calls Try.prog 6 #[.int .i64 op, .agg #[.bool ai, .int .i64 an], .agg #[.bool bi, .int .i64 bn]] w fun e w' => e = .returned (.bool true) ∧ Below w.heap.size w w' := by
  have i0 : i64 0 := by unfold i64; omega
  have x0 : Bx ((w.alloc (.cells #[.bool ai, .int .i64 an] 23)).alloc (.cells #[.bool bi, .int .i64 bn] 23)) w.heap.size ai an := (Bx.new w ai an 23).keep ((Below.refl _ _).alloc (Nat.le_refl _) _)
  have x1 : Bx ((w.alloc (.cells #[.bool ai, .int .i64 an] 23)).alloc (.cells #[.bool bi, .int .i64 bn] 23)) (w.heap.size + 1) bi bn := by simpa using Bx.new (w.alloc (.cells #[.bool ai, .int .i64 an] 23)) bi bn 23
  have x2 : Below w.heap.size w ((w.alloc (.cells #[.bool ai, .int .i64 an] 23)).alloc (.cells #[.bool bi, .int .i64 bn] 23)) := (by repeat (first | exact Below.refl _ _ | (refine Below.drew ?_) | (refine Below.setCell ?_ (by first | omega | (simp; done) | (simp; omega)) _) | (refine Below.alloc ?_ (by first | omega | (simp; done) | (simp; omega)) _) | (refine Below.trans ?_ (Below.mono (by assumption) (by first | omega | (simp; done) | (simp; omega))))))
  go_enter Try.func6, Try.ntmps6
  go_upto_region 1 with fail
  go_name_world W hW
  rw [hW] at x0 x1 x2
  clear hW
  obtain ⟨B, hB⟩ : ∃ B, B = w.heap.size := ⟨_, rfl⟩
  rw [← hB] at x0 x1 x2 ⊢
  have HB : Hid (B = w.heap.size) := hB
  clear hB
  have HL : Hid (Bx W B ai an ∧ Bx W (B + 1) bi bn ∧ Below B w W) := ⟨x0, x1, x2⟩
  clear x0 x1 x2
  obtain ⟨x0, x1, xb⟩ := HL.out
  have hcl : ∀ a b : World, (a.cell? ⟨B, 0, none⟩ = some (.bool ai) ∧ a.cell? ⟨B, 1, none⟩ = some (.int .i64 an) ∧ B < a.heap.size ∧ a.cell? ⟨B + 1, 0, none⟩ = some (.bool bi) ∧ a.cell? ⟨B + 1, 1, none⟩ = some (.int .i64 bn) ∧ B + 1 < a.heap.size ∧ Below B w a) → Below a.heap.size a b → (b.cell? ⟨B, 0, none⟩ = some (.bool ai) ∧ b.cell? ⟨B, 1, none⟩ = some (.int .i64 an) ∧ B < b.heap.size ∧ b.cell? ⟨B + 1, 0, none⟩ = some (.bool bi) ∧ b.cell? ⟨B + 1, 1, none⟩ = some (.int .i64 bn) ∧ B + 1 < b.heap.size ∧ Below B w b) := fun a b h hb => by
      have x0 := Bx.keep ⟨h.1, h.2.1⟩ hb
      have x1 := Bx.keep ⟨h.2.2.2.1, h.2.2.2.2.1⟩ hb
      exact ⟨x0.1, x0.2, x0.lt, x1.1, x1.2, x1.lt, h.2.2.2.2.2.2.trans (hb.mono (Nat.le_of_lt (World.block_lt_of_cell? a _ h.1)))⟩
  have hset : ∀ (b : World) (Q : Nat) (v u : Value), (B < Q ∧ B + 1 < Q) → (b.cell? ⟨B, 0, none⟩ = some (.bool ai) ∧ b.cell? ⟨B, 1, none⟩ = some (.int .i64 an) ∧ B < b.heap.size ∧ b.cell? ⟨B + 1, 0, none⟩ = some (.bool bi) ∧ b.cell? ⟨B + 1, 1, none⟩ = some (.int .i64 bn) ∧ B + 1 < b.heap.size ∧ Below B w b) → (((b.setCell ⟨Q, 0, none⟩ v).setCell ⟨Q, 1, none⟩ u).cell? ⟨B, 0, none⟩ = some (.bool ai) ∧ ((b.setCell ⟨Q, 0, none⟩ v).setCell ⟨Q, 1, none⟩ u).cell? ⟨B, 1, none⟩ = some (.int .i64 an) ∧ B < ((b.setCell ⟨Q, 0, none⟩ v).setCell ⟨Q, 1, none⟩ u).heap.size ∧ ((b.setCell ⟨Q, 0, none⟩ v).setCell ⟨Q, 1, none⟩ u).cell? ⟨B + 1, 0, none⟩ = some (.bool bi) ∧ ((b.setCell ⟨Q, 0, none⟩ v).setCell ⟨Q, 1, none⟩ u).cell? ⟨B + 1, 1, none⟩ = some (.int .i64 bn) ∧ B + 1 < ((b.setCell ⟨Q, 0, none⟩ v).setCell ⟨Q, 1, none⟩ u).heap.size ∧ Below B w ((b.setCell ⟨Q, 0, none⟩ v).setCell ⟨Q, 1, none⟩ u)) := fun b Q v u h h2 => by
      have x0 := Bx.set (b := b) (q := Q) h.1 ⟨h2.1, h2.2.1⟩ v u
      have x1 := Bx.set (b := b) (q := Q) h.2 ⟨h2.2.2.2.1, h2.2.2.2.2.1⟩ v u
      exact ⟨x0.1, x0.2, x0.lt, x1.1, x1.2, x1.lt, (h2.2.2.2.2.2.2.setCell (Nat.le_of_lt h.1) v).setCell (Nat.le_of_lt h.1) u⟩
  have HSET : Hid _ := hset
  clear hset
  have HCL : Hid _ := hcl
  clear hcl
  have hS0 := (⟨x0.1, x0.2, x0.lt, x1.1, x1.2, x1.lt, xb⟩ : W.cell? ⟨B, 0, none⟩ = some (.bool ai) ∧ W.cell? ⟨B, 1, none⟩ = some (.int .i64 an) ∧ B < W.heap.size ∧ W.cell? ⟨B + 1, 0, none⟩ = some (.bool bi) ∧ W.cell? ⟨B + 1, 1, none⟩ = some (.int .i64 bn) ∧ B + 1 < W.heap.size ∧ Below B w W)
  have lt0 := x0.lt
  have lt1 := x1.lt
  clear x0 x1 xb
  have mk1 : ∀ (wx : World) (p : Nat), (wx.cell? ⟨B, 0, none⟩ = some (.bool ai) ∧ wx.cell? ⟨B, 1, none⟩ = some (.int .i64 an) ∧ B < wx.heap.size ∧ wx.cell? ⟨B + 1, 0, none⟩ = some (.bool bi) ∧ wx.cell? ⟨B + 1, 1, none⟩ = some (.int .i64 bn) ∧ B + 1 < wx.heap.size ∧ Below B w wx) → Bx wx p (twoI op ai bi bn) (twoN op ai an bi bn) → Hid (Bx wx B ai an ∧ Bx wx (B + 1) bi bn ∧ Bx wx p (twoI op ai bi bn) (twoN op ai an bi bn) ∧ Below B w wx) := fun wx p h1 h2 => ⟨⟨h1.1, h1.2.1⟩, ⟨h1.2.2.2.1, h1.2.2.2.2.1⟩, h2, h1.2.2.2.2.2.2⟩
  go_cut [7, 8] (fun v7 v8 wx => ∃ p, v7 = .pointer (some ⟨p, 0, none⟩) ∧ v8 = .bool (twoOk op bi bn) ∧ Hid (Bx wx B ai an ∧ Bx wx (B + 1) bi bn ∧ Bx wx p (twoI op ai bi bn) (twoN op ai an bi bn) ∧ Below B w wx))
  case first =>
    go_region_held3 (fun w' => w'.cell? ⟨B, 0, none⟩ = some (.bool ai) ∧ w'.cell? ⟨B, 1, none⟩ = some (.int .i64 an) ∧ B < w'.heap.size ∧ w'.cell? ⟨B + 1, 0, none⟩ = some (.bool bi) ∧ w'.cell? ⟨B + 1, 1, none⟩ = some (.int .i64 bn) ∧ B + 1 < w'.heap.size ∧ Below B w w')
      ((first | assumption | exact hS0 | exact hS0 _ | exact HCL.out _ _ hS0 ((Below.refl _ _).drew) | exact HCL.out _ _ (hS0 _) ((Below.refl _ _).drew) | exact HCL.out _ _ (by assumption) ((Below.refl _ _).drew) | exact HCL.out _ _ (by assumption) ((Below.refl _ _).alloc (Nat.le_refl _) _) | exact HCL.out _ _ (by assumption) (((Below.refl _ _).alloc (Nat.le_refl _) _).alloc (by simp) _) | exact HSET.out _ _ _ _ (by omega) (by assumption)))
      ((first
        | (go_at_call 8; refine (to_any _ _ _).mono ?_; rintro e w2 ⟨rfl, o1, o2, rfl⟩)
        | (go_at_call 23; refine (liftw (two_any _ _ _ _ _ _ (by assumption) (by assumption)) (by assumption) HCL.out).mono ?_; rintro e w2 ⟨rfl, h2, hc2, hf2, hl2⟩)
        | fail))
    all_goals (go_wp2; go_meet; case rel => exact ⟨_, rfl, rfl, mk1 _ _ (by assumption) (by first | exact Bx.new _ _ _ _ | exact Bx.wrote (v := .bool false) (u := .int .i64 0) ((hc2 _ _ (by simp; try omega)).trans (by simp [go_sem])) ((hc2 _ _ (by simp; try omega)).trans (by simp [go_sem])))⟩)
  case rest =>
    obtain ⟨p, rfl, rfl, HL2⟩ := hcut
    clear mk1 hS0 HCL HSET HL lt0 lt1
    have HL := HL2
    clear HL2
    go_upto_region 2 with fail
    obtain ⟨x0, x1, x2, xb⟩ := HL.out
    have hcl : ∀ a b : World, (a.cell? ⟨B, 0, none⟩ = some (.bool ai) ∧ a.cell? ⟨B, 1, none⟩ = some (.int .i64 an) ∧ B < a.heap.size ∧ a.cell? ⟨B + 1, 0, none⟩ = some (.bool bi) ∧ a.cell? ⟨B + 1, 1, none⟩ = some (.int .i64 bn) ∧ B + 1 < a.heap.size ∧ a.cell? ⟨p, 0, none⟩ = some (.bool (twoI op ai bi bn)) ∧ a.cell? ⟨p, 1, none⟩ = some (.int .i64 (twoN op ai an bi bn)) ∧ p < a.heap.size ∧ Below B w a) → Below a.heap.size a b → (b.cell? ⟨B, 0, none⟩ = some (.bool ai) ∧ b.cell? ⟨B, 1, none⟩ = some (.int .i64 an) ∧ B < b.heap.size ∧ b.cell? ⟨B + 1, 0, none⟩ = some (.bool bi) ∧ b.cell? ⟨B + 1, 1, none⟩ = some (.int .i64 bn) ∧ B + 1 < b.heap.size ∧ b.cell? ⟨p, 0, none⟩ = some (.bool (twoI op ai bi bn)) ∧ b.cell? ⟨p, 1, none⟩ = some (.int .i64 (twoN op ai an bi bn)) ∧ p < b.heap.size ∧ Below B w b) := fun a b h hb => by
        have x0 := Bx.keep ⟨h.1, h.2.1⟩ hb
        have x1 := Bx.keep ⟨h.2.2.2.1, h.2.2.2.2.1⟩ hb
        have x2 := Bx.keep ⟨h.2.2.2.2.2.2.1, h.2.2.2.2.2.2.2.1⟩ hb
        exact ⟨x0.1, x0.2, x0.lt, x1.1, x1.2, x1.lt, x2.1, x2.2, x2.lt, h.2.2.2.2.2.2.2.2.2.trans (hb.mono (Nat.le_of_lt (World.block_lt_of_cell? a _ h.1)))⟩
    have hset : ∀ (b : World) (Q : Nat) (v u : Value), (B < Q ∧ B + 1 < Q ∧ p < Q) → (b.cell? ⟨B, 0, none⟩ = some (.bool ai) ∧ b.cell? ⟨B, 1, none⟩ = some (.int .i64 an) ∧ B < b.heap.size ∧ b.cell? ⟨B + 1, 0, none⟩ = some (.bool bi) ∧ b.cell? ⟨B + 1, 1, none⟩ = some (.int .i64 bn) ∧ B + 1 < b.heap.size ∧ b.cell? ⟨p, 0, none⟩ = some (.bool (twoI op ai bi bn)) ∧ b.cell? ⟨p, 1, none⟩ = some (.int .i64 (twoN op ai an bi bn)) ∧ p < b.heap.size ∧ Below B w b) → (((b.setCell ⟨Q, 0, none⟩ v).setCell ⟨Q, 1, none⟩ u).cell? ⟨B, 0, none⟩ = some (.bool ai) ∧ ((b.setCell ⟨Q, 0, none⟩ v).setCell ⟨Q, 1, none⟩ u).cell? ⟨B, 1, none⟩ = some (.int .i64 an) ∧ B < ((b.setCell ⟨Q, 0, none⟩ v).setCell ⟨Q, 1, none⟩ u).heap.size ∧ ((b.setCell ⟨Q, 0, none⟩ v).setCell ⟨Q, 1, none⟩ u).cell? ⟨B + 1, 0, none⟩ = some (.bool bi) ∧ ((b.setCell ⟨Q, 0, none⟩ v).setCell ⟨Q, 1, none⟩ u).cell? ⟨B + 1, 1, none⟩ = some (.int .i64 bn) ∧ B + 1 < ((b.setCell ⟨Q, 0, none⟩ v).setCell ⟨Q, 1, none⟩ u).heap.size ∧ ((b.setCell ⟨Q, 0, none⟩ v).setCell ⟨Q, 1, none⟩ u).cell? ⟨p, 0, none⟩ = some (.bool (twoI op ai bi bn)) ∧ ((b.setCell ⟨Q, 0, none⟩ v).setCell ⟨Q, 1, none⟩ u).cell? ⟨p, 1, none⟩ = some (.int .i64 (twoN op ai an bi bn)) ∧ p < ((b.setCell ⟨Q, 0, none⟩ v).setCell ⟨Q, 1, none⟩ u).heap.size ∧ Below B w ((b.setCell ⟨Q, 0, none⟩ v).setCell ⟨Q, 1, none⟩ u)) := fun b Q v u h h2 => by
        have x0 := Bx.set (b := b) (q := Q) h.1 ⟨h2.1, h2.2.1⟩ v u
        have x1 := Bx.set (b := b) (q := Q) h.2.1 ⟨h2.2.2.2.1, h2.2.2.2.2.1⟩ v u
        have x2 := Bx.set (b := b) (q := Q) h.2.2 ⟨h2.2.2.2.2.2.2.1, h2.2.2.2.2.2.2.2.1⟩ v u
        exact ⟨x0.1, x0.2, x0.lt, x1.1, x1.2, x1.lt, x2.1, x2.2, x2.lt, (h2.2.2.2.2.2.2.2.2.2.setCell (Nat.le_of_lt h.1) v).setCell (Nat.le_of_lt h.1) u⟩
    have HSET : Hid _ := hset
    clear hset
    have HCL : Hid _ := hcl
    clear hcl
    have hS0 := (⟨x0.1, x0.2, x0.lt, x1.1, x1.2, x1.lt, x2.1, x2.2, x2.lt, xb⟩ : wc.cell? ⟨B, 0, none⟩ = some (.bool ai) ∧ wc.cell? ⟨B, 1, none⟩ = some (.int .i64 an) ∧ B < wc.heap.size ∧ wc.cell? ⟨B + 1, 0, none⟩ = some (.bool bi) ∧ wc.cell? ⟨B + 1, 1, none⟩ = some (.int .i64 bn) ∧ B + 1 < wc.heap.size ∧ wc.cell? ⟨p, 0, none⟩ = some (.bool (twoI op ai bi bn)) ∧ wc.cell? ⟨p, 1, none⟩ = some (.int .i64 (twoN op ai an bi bn)) ∧ p < wc.heap.size ∧ Below B w wc)
    have lt0 := x0.lt
    have lt1 := x1.lt
    have lt2 := x2.lt
    clear x0 x1 x2 xb
    have mk1 : ∀ (wx : World) (q : Nat), (wx.cell? ⟨B, 0, none⟩ = some (.bool ai) ∧ wx.cell? ⟨B, 1, none⟩ = some (.int .i64 an) ∧ B < wx.heap.size ∧ wx.cell? ⟨B + 1, 0, none⟩ = some (.bool bi) ∧ wx.cell? ⟨B + 1, 1, none⟩ = some (.int .i64 bn) ∧ B + 1 < wx.heap.size ∧ wx.cell? ⟨p, 0, none⟩ = some (.bool (twoI op ai bi bn)) ∧ wx.cell? ⟨p, 1, none⟩ = some (.int .i64 (twoN op ai an bi bn)) ∧ p < wx.heap.size ∧ Below B w wx) → Bx wx q (twoI op false bi bn) (twoN op false 0 bi bn) → Hid (Bx wx B ai an ∧ Bx wx (B + 1) bi bn ∧ Bx wx p (twoI op ai bi bn) (twoN op ai an bi bn) ∧ Bx wx q (twoI op false bi bn) (twoN op false 0 bi bn) ∧ Below B w wx) := fun wx q h1 h2 => ⟨⟨h1.1, h1.2.1⟩, ⟨h1.2.2.2.1, h1.2.2.2.2.1⟩, ⟨h1.2.2.2.2.2.2.1, h1.2.2.2.2.2.2.2.1⟩, h2, h1.2.2.2.2.2.2.2.2.2⟩
    go_cut [9, 10] (fun v9 v10 wx => ∃ q, v9 = .pointer (some ⟨q, 0, none⟩) ∧ v10 = .bool (twoOk op bi bn) ∧ Hid (Bx wx B ai an ∧ Bx wx (B + 1) bi bn ∧ Bx wx p (twoI op ai bi bn) (twoN op ai an bi bn) ∧ Bx wx q (twoI op false bi bn) (twoN op false 0 bi bn) ∧ Below B w wx))
    case first =>
      go_region_held3 (fun w' => w'.cell? ⟨B, 0, none⟩ = some (.bool ai) ∧ w'.cell? ⟨B, 1, none⟩ = some (.int .i64 an) ∧ B < w'.heap.size ∧ w'.cell? ⟨B + 1, 0, none⟩ = some (.bool bi) ∧ w'.cell? ⟨B + 1, 1, none⟩ = some (.int .i64 bn) ∧ B + 1 < w'.heap.size ∧ w'.cell? ⟨p, 0, none⟩ = some (.bool (twoI op ai bi bn)) ∧ w'.cell? ⟨p, 1, none⟩ = some (.int .i64 (twoN op ai an bi bn)) ∧ p < w'.heap.size ∧ Below B w w')
        ((first | assumption | exact hS0 | exact hS0 _ | exact HCL.out _ _ hS0 ((Below.refl _ _).drew) | exact HCL.out _ _ (hS0 _) ((Below.refl _ _).drew) | exact HCL.out _ _ (by assumption) ((Below.refl _ _).drew) | exact HCL.out _ _ (by assumption) ((Below.refl _ _).alloc (Nat.le_refl _) _) | exact HCL.out _ _ (by assumption) (((Below.refl _ _).alloc (Nat.le_refl _) _).alloc (by simp) _) | exact HSET.out _ _ _ _ (by omega) (by assumption)))
        ((first
          | (go_at_call 14; refine (any_any _).mono ?_; rintro e w2 ⟨rfl, o1, rfl⟩)
          | (go_at_call 8; refine (to_any _ _ _).mono ?_; rintro e w2 ⟨rfl, o1, o2, rfl⟩)
          | (go_at_call 23; refine (liftw (two_any _ _ _ _ _ _ (by assumption) (by assumption)) (by assumption) HCL.out).mono ?_; rintro e w2 ⟨rfl, h2, hc2, hf2, hl2⟩)
          | fail))
      all_goals (go_wp2; go_meet; case rel => exact ⟨_, rfl, rfl, mk1 _ _ (by assumption) (by first | exact Bx.new _ _ _ _ | exact Bx.wrote (v := .bool false) (u := .int .i64 0) ((hc2 _ _ (by simp; try omega)).trans (by simp [go_sem])) ((hc2 _ _ (by simp; try omega)).trans (by simp [go_sem])))⟩)
    case rest =>
      obtain ⟨q, rfl, rfl, HL2⟩ := hcut
      clear mk1 hS0 HCL HSET HL lt0 lt1 lt2
      have HL := HL2
      clear HL2
      obtain ⟨y0, y1, y2, y3, y4⟩ := HL.out
      clear HL
      have c0 := y0.1
      have c1 := y0.2
      go_upto_region 4 with (first
        | (go_at_call 8; refine (to_any _ _ _).mono ?_; rintro e w' ⟨rfl, o1, o2, rfl⟩)
        | (go_at_call 14; refine (any_any _).mono ?_; rintro e w' ⟨rfl, o3, rfl⟩)
        | (go_at_call 23; refine (two_any _ _ _ _ _ _ (by assumption) (by assumption)).mono ?_; rintro e w3 ⟨rfl, hb3⟩))
      have hbb : Below wc.heap.size wc w3 := ((((Below.refl _ _).alloc (Nat.le_refl _) o1).alloc (by simp) o2).alloc (by simp; omega) o3).trans (hb3.mono (by simp; omega))
      have hbc : Below wc.heap.size wc (w3.alloc (.cells #[.bool (twoI op ai false 0), .int .i64 (twoN op ai an false 0)] 24)) := hbb.alloc hbb.size _
      have HL : Hid (Bx (w3.alloc (.cells #[.bool (twoI op ai false 0), .int .i64 (twoN op ai an false 0)] 24)) B ai an ∧ Bx (w3.alloc (.cells #[.bool (twoI op ai false 0), .int .i64 (twoN op ai an false 0)] 24)) (B + 1) bi bn ∧ Bx (w3.alloc (.cells #[.bool (twoI op ai false 0), .int .i64 (twoN op ai an false 0)] 24)) p (twoI op ai bi bn) (twoN op ai an bi bn) ∧ Bx (w3.alloc (.cells #[.bool (twoI op ai false 0), .int .i64 (twoN op ai an false 0)] 24)) q (twoI op false bi bn) (twoN op false 0 bi bn) ∧ Bx (w3.alloc (.cells #[.bool (twoI op ai false 0), .int .i64 (twoN op ai an false 0)] 24)) w3.heap.size (twoI op ai false 0) (twoN op ai an false 0) ∧ Below B w (w3.alloc (.cells #[.bool (twoI op ai false 0), .int .i64 (twoN op ai an false 0)] 24))) := ⟨y0.keep hbc, y1.keep hbc, y2.keep hbc, y3.keep hbc, Bx.new w3 _ _ 24, y4.trans (hbc.mono (Nat.le_of_lt y0.lt))⟩
      clear c0 c1 y0 y1 y2 y3 y4 hb3 hbb hbc
      go_name_world W4 hW4
      rw [hW4] at HL
      clear hW4
      generalize w3.heap.size = r at *
      obtain ⟨y0, y1, y2, y3, y5, y4⟩ := HL.out
      have hcl : ∀ a b : World, (a.cell? ⟨B, 0, none⟩ = some (.bool ai) ∧ a.cell? ⟨B, 1, none⟩ = some (.int .i64 an) ∧ B < a.heap.size ∧ a.cell? ⟨B + 1, 0, none⟩ = some (.bool bi) ∧ a.cell? ⟨B + 1, 1, none⟩ = some (.int .i64 bn) ∧ B + 1 < a.heap.size ∧ a.cell? ⟨p, 0, none⟩ = some (.bool (twoI op ai bi bn)) ∧ a.cell? ⟨p, 1, none⟩ = some (.int .i64 (twoN op ai an bi bn)) ∧ p < a.heap.size ∧ a.cell? ⟨q, 0, none⟩ = some (.bool (twoI op false bi bn)) ∧ a.cell? ⟨q, 1, none⟩ = some (.int .i64 (twoN op false 0 bi bn)) ∧ q < a.heap.size ∧ a.cell? ⟨r, 0, none⟩ = some (.bool (twoI op ai false 0)) ∧ a.cell? ⟨r, 1, none⟩ = some (.int .i64 (twoN op ai an false 0)) ∧ r < a.heap.size ∧ Below B w a) → Below a.heap.size a b → (b.cell? ⟨B, 0, none⟩ = some (.bool ai) ∧ b.cell? ⟨B, 1, none⟩ = some (.int .i64 an) ∧ B < b.heap.size ∧ b.cell? ⟨B + 1, 0, none⟩ = some (.bool bi) ∧ b.cell? ⟨B + 1, 1, none⟩ = some (.int .i64 bn) ∧ B + 1 < b.heap.size ∧ b.cell? ⟨p, 0, none⟩ = some (.bool (twoI op ai bi bn)) ∧ b.cell? ⟨p, 1, none⟩ = some (.int .i64 (twoN op ai an bi bn)) ∧ p < b.heap.size ∧ b.cell? ⟨q, 0, none⟩ = some (.bool (twoI op false bi bn)) ∧ b.cell? ⟨q, 1, none⟩ = some (.int .i64 (twoN op false 0 bi bn)) ∧ q < b.heap.size ∧ b.cell? ⟨r, 0, none⟩ = some (.bool (twoI op ai false 0)) ∧ b.cell? ⟨r, 1, none⟩ = some (.int .i64 (twoN op ai an false 0)) ∧ r < b.heap.size ∧ Below B w b) := fun a b h hb => by
          have x0 := Bx.keep ⟨h.1, h.2.1⟩ hb
          have x1 := Bx.keep ⟨h.2.2.2.1, h.2.2.2.2.1⟩ hb
          have x2 := Bx.keep ⟨h.2.2.2.2.2.2.1, h.2.2.2.2.2.2.2.1⟩ hb
          have x3 := Bx.keep ⟨h.2.2.2.2.2.2.2.2.2.1, h.2.2.2.2.2.2.2.2.2.2.1⟩ hb
          have x4 := Bx.keep ⟨h.2.2.2.2.2.2.2.2.2.2.2.2.1, h.2.2.2.2.2.2.2.2.2.2.2.2.2.1⟩ hb
          exact ⟨x0.1, x0.2, x0.lt, x1.1, x1.2, x1.lt, x2.1, x2.2, x2.lt, x3.1, x3.2, x3.lt, x4.1, x4.2, x4.lt, h.2.2.2.2.2.2.2.2.2.2.2.2.2.2.2.trans (hb.mono (Nat.le_of_lt (World.block_lt_of_cell? a _ h.1)))⟩
      have hset : ∀ (b : World) (Q : Nat) (v u : Value), (B < Q ∧ B + 1 < Q ∧ p < Q ∧ q < Q ∧ r < Q) → (b.cell? ⟨B, 0, none⟩ = some (.bool ai) ∧ b.cell? ⟨B, 1, none⟩ = some (.int .i64 an) ∧ B < b.heap.size ∧ b.cell? ⟨B + 1, 0, none⟩ = some (.bool bi) ∧ b.cell? ⟨B + 1, 1, none⟩ = some (.int .i64 bn) ∧ B + 1 < b.heap.size ∧ b.cell? ⟨p, 0, none⟩ = some (.bool (twoI op ai bi bn)) ∧ b.cell? ⟨p, 1, none⟩ = some (.int .i64 (twoN op ai an bi bn)) ∧ p < b.heap.size ∧ b.cell? ⟨q, 0, none⟩ = some (.bool (twoI op false bi bn)) ∧ b.cell? ⟨q, 1, none⟩ = some (.int .i64 (twoN op false 0 bi bn)) ∧ q < b.heap.size ∧ b.cell? ⟨r, 0, none⟩ = some (.bool (twoI op ai false 0)) ∧ b.cell? ⟨r, 1, none⟩ = some (.int .i64 (twoN op ai an false 0)) ∧ r < b.heap.size ∧ Below B w b) → (((b.setCell ⟨Q, 0, none⟩ v).setCell ⟨Q, 1, none⟩ u).cell? ⟨B, 0, none⟩ = some (.bool ai) ∧ ((b.setCell ⟨Q, 0, none⟩ v).setCell ⟨Q, 1, none⟩ u).cell? ⟨B, 1, none⟩ = some (.int .i64 an) ∧ B < ((b.setCell ⟨Q, 0, none⟩ v).setCell ⟨Q, 1, none⟩ u).heap.size ∧ ((b.setCell ⟨Q, 0, none⟩ v).setCell ⟨Q, 1, none⟩ u).cell? ⟨B + 1, 0, none⟩ = some (.bool bi) ∧ ((b.setCell ⟨Q, 0, none⟩ v).setCell ⟨Q, 1, none⟩ u).cell? ⟨B + 1, 1, none⟩ = some (.int .i64 bn) ∧ B + 1 < ((b.setCell ⟨Q, 0, none⟩ v).setCell ⟨Q, 1, none⟩ u).heap.size ∧ ((b.setCell ⟨Q, 0, none⟩ v).setCell ⟨Q, 1, none⟩ u).cell? ⟨p, 0, none⟩ = some (.bool (twoI op ai bi bn)) ∧ ((b.setCell ⟨Q, 0, none⟩ v).setCell ⟨Q, 1, none⟩ u).cell? ⟨p, 1, none⟩ = some (.int .i64 (twoN op ai an bi bn)) ∧ p < ((b.setCell ⟨Q, 0, none⟩ v).setCell ⟨Q, 1, none⟩ u).heap.size ∧ ((b.setCell ⟨Q, 0, none⟩ v).setCell ⟨Q, 1, none⟩ u).cell? ⟨q, 0, none⟩ = some (.bool (twoI op false bi bn)) ∧ ((b.setCell ⟨Q, 0, none⟩ v).setCell ⟨Q, 1, none⟩ u).cell? ⟨q, 1, none⟩ = some (.int .i64 (twoN op false 0 bi bn)) ∧ q < ((b.setCell ⟨Q, 0, none⟩ v).setCell ⟨Q, 1, none⟩ u).heap.size ∧ ((b.setCell ⟨Q, 0, none⟩ v).setCell ⟨Q, 1, none⟩ u).cell? ⟨r, 0, none⟩ = some (.bool (twoI op ai false 0)) ∧ ((b.setCell ⟨Q, 0, none⟩ v).setCell ⟨Q, 1, none⟩ u).cell? ⟨r, 1, none⟩ = some (.int .i64 (twoN op ai an false 0)) ∧ r < ((b.setCell ⟨Q, 0, none⟩ v).setCell ⟨Q, 1, none⟩ u).heap.size ∧ Below B w ((b.setCell ⟨Q, 0, none⟩ v).setCell ⟨Q, 1, none⟩ u)) := fun b Q v u h h2 => by
          have x0 := Bx.set (b := b) (q := Q) h.1 ⟨h2.1, h2.2.1⟩ v u
          have x1 := Bx.set (b := b) (q := Q) h.2.1 ⟨h2.2.2.2.1, h2.2.2.2.2.1⟩ v u
          have x2 := Bx.set (b := b) (q := Q) h.2.2.1 ⟨h2.2.2.2.2.2.2.1, h2.2.2.2.2.2.2.2.1⟩ v u
          have x3 := Bx.set (b := b) (q := Q) h.2.2.2.1 ⟨h2.2.2.2.2.2.2.2.2.2.1, h2.2.2.2.2.2.2.2.2.2.2.1⟩ v u
          have x4 := Bx.set (b := b) (q := Q) h.2.2.2.2 ⟨h2.2.2.2.2.2.2.2.2.2.2.2.2.1, h2.2.2.2.2.2.2.2.2.2.2.2.2.2.1⟩ v u
          exact ⟨x0.1, x0.2, x0.lt, x1.1, x1.2, x1.lt, x2.1, x2.2, x2.lt, x3.1, x3.2, x3.lt, x4.1, x4.2, x4.lt, (h2.2.2.2.2.2.2.2.2.2.2.2.2.2.2.2.setCell (Nat.le_of_lt h.1) v).setCell (Nat.le_of_lt h.1) u⟩
      have HSET : Hid _ := hset
      clear hset
      have HCL : Hid _ := hcl
      clear hcl
      have hS0 := (⟨y0.1, y0.2, y0.lt, y1.1, y1.2, y1.lt, y2.1, y2.2, y2.lt, y3.1, y3.2, y3.lt, y5.1, y5.2, y5.lt, y4⟩ : W4.cell? ⟨B, 0, none⟩ = some (.bool ai) ∧ W4.cell? ⟨B, 1, none⟩ = some (.int .i64 an) ∧ B < W4.heap.size ∧ W4.cell? ⟨B + 1, 0, none⟩ = some (.bool bi) ∧ W4.cell? ⟨B + 1, 1, none⟩ = some (.int .i64 bn) ∧ B + 1 < W4.heap.size ∧ W4.cell? ⟨p, 0, none⟩ = some (.bool (twoI op ai bi bn)) ∧ W4.cell? ⟨p, 1, none⟩ = some (.int .i64 (twoN op ai an bi bn)) ∧ p < W4.heap.size ∧ W4.cell? ⟨q, 0, none⟩ = some (.bool (twoI op false bi bn)) ∧ W4.cell? ⟨q, 1, none⟩ = some (.int .i64 (twoN op false 0 bi bn)) ∧ q < W4.heap.size ∧ W4.cell? ⟨r, 0, none⟩ = some (.bool (twoI op ai false 0)) ∧ W4.cell? ⟨r, 1, none⟩ = some (.int .i64 (twoN op ai an false 0)) ∧ r < W4.heap.size ∧ Below B w W4)
      clear y0 y1 y2 y3 y4 y5
      have mk4 : ∀ wx : World, (wx.cell? ⟨B, 0, none⟩ = some (.bool ai) ∧ wx.cell? ⟨B, 1, none⟩ = some (.int .i64 an) ∧ B < wx.heap.size ∧ wx.cell? ⟨B + 1, 0, none⟩ = some (.bool bi) ∧ wx.cell? ⟨B + 1, 1, none⟩ = some (.int .i64 bn) ∧ B + 1 < wx.heap.size ∧ wx.cell? ⟨p, 0, none⟩ = some (.bool (twoI op ai bi bn)) ∧ wx.cell? ⟨p, 1, none⟩ = some (.int .i64 (twoN op ai an bi bn)) ∧ p < wx.heap.size ∧ wx.cell? ⟨q, 0, none⟩ = some (.bool (twoI op false bi bn)) ∧ wx.cell? ⟨q, 1, none⟩ = some (.int .i64 (twoN op false 0 bi bn)) ∧ q < wx.heap.size ∧ wx.cell? ⟨r, 0, none⟩ = some (.bool (twoI op ai false 0)) ∧ wx.cell? ⟨r, 1, none⟩ = some (.int .i64 (twoN op ai an false 0)) ∧ r < wx.heap.size ∧ Below B w wx) → Hid (Bx wx B ai an ∧ Bx wx (B + 1) bi bn ∧ Below B w wx) := fun wx h => ⟨⟨h.1, h.2.1⟩, ⟨h.2.2.2.1, h.2.2.2.2.1⟩, h.2.2.2.2.2.2.2.2.2.2.2.2.2.2.2⟩
      go_cut [8, 10, 12, 68] (fun _ _ _ v wx => v = .bool false ∧ Hid (Bx wx B ai an ∧ Bx wx (B + 1) bi bn ∧ Below B w wx))
      case first =>
        by_cases ok : twoOk op bi bn = true
        · obtain ⟨k1, k2, k3⟩ := rises1 op ai an bi bn ok
          go_wp2_with (first
            | (go_at_call 10; refine (lift (told_any _) hS0 HCL.out).mono ?_; rintro e w2 ⟨rfl, h2⟩; have h3 := h2; obtain ⟨-, -, -, -, -, -, e0, e1, e2, e3, e4, e5, e6, e7, e8, -⟩ := h3)
            | (go_at_call 19; refine (lift (within_any _ _ _ _ _) h2 HCL.out).mono ?_; rintro e w5 ⟨rfl, h5⟩; have h3 := h5; have h2 := h5; obtain ⟨-, -, -, -, -, -, e0, e1, e2, e3, e4, e5, e6, e7, e8, -⟩ := h3))
          all_goals (go_meet; case rel => exact ⟨rfl, mk4 _ h2⟩)
        · have ok' : twoOk op bi bn = false := by simpa using ok
          go_wp2_with (go_at_call 10; refine (lift (told_any _) hS0 HCL.out).mono ?_; rintro e w2 ⟨rfl, h2⟩)
          all_goals (go_meet; case rel => exact ⟨rfl, mk4 _ h2⟩)
      case rest =>
        obtain ⟨rfl, HL2⟩ := hcut
        clear hS0 HCL HSET mk4 HL
        have HL := HL2
        clear HL2
        go_upto_region 6 with fail
        obtain ⟨x0, x1, xb⟩ := HL.out
        have hcl : ∀ a b : World, (a.cell? ⟨B, 0, none⟩ = some (.bool ai) ∧ a.cell? ⟨B, 1, none⟩ = some (.int .i64 an) ∧ B < a.heap.size ∧ a.cell? ⟨B + 1, 0, none⟩ = some (.bool bi) ∧ a.cell? ⟨B + 1, 1, none⟩ = some (.int .i64 bn) ∧ B + 1 < a.heap.size ∧ Below B w a) → Below a.heap.size a b → (b.cell? ⟨B, 0, none⟩ = some (.bool ai) ∧ b.cell? ⟨B, 1, none⟩ = some (.int .i64 an) ∧ B < b.heap.size ∧ b.cell? ⟨B + 1, 0, none⟩ = some (.bool bi) ∧ b.cell? ⟨B + 1, 1, none⟩ = some (.int .i64 bn) ∧ B + 1 < b.heap.size ∧ Below B w b) := fun a b h hb => by
            have x0 := Bx.keep ⟨h.1, h.2.1⟩ hb
            have x1 := Bx.keep ⟨h.2.2.2.1, h.2.2.2.2.1⟩ hb
            exact ⟨x0.1, x0.2, x0.lt, x1.1, x1.2, x1.lt, h.2.2.2.2.2.2.trans (hb.mono (Nat.le_of_lt (World.block_lt_of_cell? a _ h.1)))⟩
        have hset : ∀ (b : World) (Q : Nat) (v u : Value), (B < Q ∧ B + 1 < Q) → (b.cell? ⟨B, 0, none⟩ = some (.bool ai) ∧ b.cell? ⟨B, 1, none⟩ = some (.int .i64 an) ∧ B < b.heap.size ∧ b.cell? ⟨B + 1, 0, none⟩ = some (.bool bi) ∧ b.cell? ⟨B + 1, 1, none⟩ = some (.int .i64 bn) ∧ B + 1 < b.heap.size ∧ Below B w b) → (((b.setCell ⟨Q, 0, none⟩ v).setCell ⟨Q, 1, none⟩ u).cell? ⟨B, 0, none⟩ = some (.bool ai) ∧ ((b.setCell ⟨Q, 0, none⟩ v).setCell ⟨Q, 1, none⟩ u).cell? ⟨B, 1, none⟩ = some (.int .i64 an) ∧ B < ((b.setCell ⟨Q, 0, none⟩ v).setCell ⟨Q, 1, none⟩ u).heap.size ∧ ((b.setCell ⟨Q, 0, none⟩ v).setCell ⟨Q, 1, none⟩ u).cell? ⟨B + 1, 0, none⟩ = some (.bool bi) ∧ ((b.setCell ⟨Q, 0, none⟩ v).setCell ⟨Q, 1, none⟩ u).cell? ⟨B + 1, 1, none⟩ = some (.int .i64 bn) ∧ B + 1 < ((b.setCell ⟨Q, 0, none⟩ v).setCell ⟨Q, 1, none⟩ u).heap.size ∧ Below B w ((b.setCell ⟨Q, 0, none⟩ v).setCell ⟨Q, 1, none⟩ u)) := fun b Q v u h h2 => by
            have x0 := Bx.set (b := b) (q := Q) h.1 ⟨h2.1, h2.2.1⟩ v u
            have x1 := Bx.set (b := b) (q := Q) h.2 ⟨h2.2.2.2.1, h2.2.2.2.2.1⟩ v u
            exact ⟨x0.1, x0.2, x0.lt, x1.1, x1.2, x1.lt, (h2.2.2.2.2.2.2.setCell (Nat.le_of_lt h.1) v).setCell (Nat.le_of_lt h.1) u⟩
        have HSET : Hid _ := hset
        clear hset
        have HCL : Hid _ := hcl
        clear hcl
        have hS0 := (⟨x0.1, x0.2, x0.lt, x1.1, x1.2, x1.lt, xb⟩ : wc.cell? ⟨B, 0, none⟩ = some (.bool ai) ∧ wc.cell? ⟨B, 1, none⟩ = some (.int .i64 an) ∧ B < wc.heap.size ∧ wc.cell? ⟨B + 1, 0, none⟩ = some (.bool bi) ∧ wc.cell? ⟨B + 1, 1, none⟩ = some (.int .i64 bn) ∧ B + 1 < wc.heap.size ∧ Below B w wc)
        have lt0 := x0.lt
        have lt1 := x1.lt
        clear x0 x1 xb
        have mk1 : ∀ (wx : World) (s : Nat), (wx.cell? ⟨B, 0, none⟩ = some (.bool ai) ∧ wx.cell? ⟨B, 1, none⟩ = some (.int .i64 an) ∧ B < wx.heap.size ∧ wx.cell? ⟨B + 1, 0, none⟩ = some (.bool bi) ∧ wx.cell? ⟨B + 1, 1, none⟩ = some (.int .i64 bn) ∧ B + 1 < wx.heap.size ∧ Below B w wx) → Bx wx s (meetI ai an bi bn) (meetN ai an bi bn) → Hid (Bx wx B ai an ∧ Bx wx (B + 1) bi bn ∧ Bx wx s (meetI ai an bi bn) (meetN ai an bi bn) ∧ Below B w wx) := fun wx s h1 h2 => ⟨⟨h1.1, h1.2.1⟩, ⟨h1.2.2.2.1, h1.2.2.2.2.1⟩, h2, h1.2.2.2.2.2.2⟩
        go_cut [13, 14] (fun v13 v14 wx => ∃ s, v13 = .pointer (some ⟨s, 0, none⟩) ∧ v14 = .bool (meetOk ai an bi bn) ∧ Hid (Bx wx B ai an ∧ Bx wx (B + 1) bi bn ∧ Bx wx s (meetI ai an bi bn) (meetN ai an bi bn) ∧ Below B w wx))
        case first =>
          go_region_held3 (fun w' => w'.cell? ⟨B, 0, none⟩ = some (.bool ai) ∧ w'.cell? ⟨B, 1, none⟩ = some (.int .i64 an) ∧ B < w'.heap.size ∧ w'.cell? ⟨B + 1, 0, none⟩ = some (.bool bi) ∧ w'.cell? ⟨B + 1, 1, none⟩ = some (.int .i64 bn) ∧ B + 1 < w'.heap.size ∧ Below B w w')
            ((first | assumption | exact hS0 | exact hS0 _ | exact HCL.out _ _ hS0 ((Below.refl _ _).drew) | exact HCL.out _ _ (hS0 _) ((Below.refl _ _).drew) | exact HCL.out _ _ (by assumption) ((Below.refl _ _).drew) | exact HCL.out _ _ (by assumption) ((Below.refl _ _).alloc (Nat.le_refl _) _) | exact HCL.out _ _ (by assumption) (((Below.refl _ _).alloc (Nat.le_refl _) _).alloc (by simp) _) | exact HSET.out _ _ _ _ (by omega) (by assumption)))
            ((first
              | (go_at_call 8; refine (to_any _ _ _).mono ?_; rintro e w2 ⟨rfl, o1, o2, rfl⟩)
              | (go_at_call 7; refine (liftw (meet_any _ _ _ _ _) (by assumption) HCL.out).mono ?_; rintro e w2 ⟨rfl, h2, hc2, hf2, hl2⟩)
              | fail))
          all_goals (go_wp2; go_meet; case rel => exact ⟨_, rfl, rfl, mk1 _ _ (by assumption) (by first | exact Bx.new _ _ _ _ | exact Bx.wrote (v := .bool false) (u := .int .i64 0) ((hc2 _ _ (by simp; try omega)).trans (by simp [go_sem])) ((hc2 _ _ (by simp; try omega)).trans (by simp [go_sem])))⟩)
        case rest =>
          obtain ⟨s, rfl, rfl, HL2⟩ := hcut
          clear mk1 hS0 HCL HSET HL lt0 lt1
          have HL := HL2
          clear HL2
          go_upto_region 7 with fail
          obtain ⟨x0, x1, x2, xb⟩ := HL.out
          have hcl : ∀ a b : World, (a.cell? ⟨B, 0, none⟩ = some (.bool ai) ∧ a.cell? ⟨B, 1, none⟩ = some (.int .i64 an) ∧ B < a.heap.size ∧ a.cell? ⟨B + 1, 0, none⟩ = some (.bool bi) ∧ a.cell? ⟨B + 1, 1, none⟩ = some (.int .i64 bn) ∧ B + 1 < a.heap.size ∧ a.cell? ⟨s, 0, none⟩ = some (.bool (meetI ai an bi bn)) ∧ a.cell? ⟨s, 1, none⟩ = some (.int .i64 (meetN ai an bi bn)) ∧ s < a.heap.size ∧ Below B w a) → Below a.heap.size a b → (b.cell? ⟨B, 0, none⟩ = some (.bool ai) ∧ b.cell? ⟨B, 1, none⟩ = some (.int .i64 an) ∧ B < b.heap.size ∧ b.cell? ⟨B + 1, 0, none⟩ = some (.bool bi) ∧ b.cell? ⟨B + 1, 1, none⟩ = some (.int .i64 bn) ∧ B + 1 < b.heap.size ∧ b.cell? ⟨s, 0, none⟩ = some (.bool (meetI ai an bi bn)) ∧ b.cell? ⟨s, 1, none⟩ = some (.int .i64 (meetN ai an bi bn)) ∧ s < b.heap.size ∧ Below B w b) := fun a b h hb => by
              have x0 := Bx.keep ⟨h.1, h.2.1⟩ hb
              have x1 := Bx.keep ⟨h.2.2.2.1, h.2.2.2.2.1⟩ hb
              have x2 := Bx.keep ⟨h.2.2.2.2.2.2.1, h.2.2.2.2.2.2.2.1⟩ hb
              exact ⟨x0.1, x0.2, x0.lt, x1.1, x1.2, x1.lt, x2.1, x2.2, x2.lt, h.2.2.2.2.2.2.2.2.2.trans (hb.mono (Nat.le_of_lt (World.block_lt_of_cell? a _ h.1)))⟩
          have hset : ∀ (b : World) (Q : Nat) (v u : Value), (B < Q ∧ B + 1 < Q ∧ s < Q) → (b.cell? ⟨B, 0, none⟩ = some (.bool ai) ∧ b.cell? ⟨B, 1, none⟩ = some (.int .i64 an) ∧ B < b.heap.size ∧ b.cell? ⟨B + 1, 0, none⟩ = some (.bool bi) ∧ b.cell? ⟨B + 1, 1, none⟩ = some (.int .i64 bn) ∧ B + 1 < b.heap.size ∧ b.cell? ⟨s, 0, none⟩ = some (.bool (meetI ai an bi bn)) ∧ b.cell? ⟨s, 1, none⟩ = some (.int .i64 (meetN ai an bi bn)) ∧ s < b.heap.size ∧ Below B w b) → (((b.setCell ⟨Q, 0, none⟩ v).setCell ⟨Q, 1, none⟩ u).cell? ⟨B, 0, none⟩ = some (.bool ai) ∧ ((b.setCell ⟨Q, 0, none⟩ v).setCell ⟨Q, 1, none⟩ u).cell? ⟨B, 1, none⟩ = some (.int .i64 an) ∧ B < ((b.setCell ⟨Q, 0, none⟩ v).setCell ⟨Q, 1, none⟩ u).heap.size ∧ ((b.setCell ⟨Q, 0, none⟩ v).setCell ⟨Q, 1, none⟩ u).cell? ⟨B + 1, 0, none⟩ = some (.bool bi) ∧ ((b.setCell ⟨Q, 0, none⟩ v).setCell ⟨Q, 1, none⟩ u).cell? ⟨B + 1, 1, none⟩ = some (.int .i64 bn) ∧ B + 1 < ((b.setCell ⟨Q, 0, none⟩ v).setCell ⟨Q, 1, none⟩ u).heap.size ∧ ((b.setCell ⟨Q, 0, none⟩ v).setCell ⟨Q, 1, none⟩ u).cell? ⟨s, 0, none⟩ = some (.bool (meetI ai an bi bn)) ∧ ((b.setCell ⟨Q, 0, none⟩ v).setCell ⟨Q, 1, none⟩ u).cell? ⟨s, 1, none⟩ = some (.int .i64 (meetN ai an bi bn)) ∧ s < ((b.setCell ⟨Q, 0, none⟩ v).setCell ⟨Q, 1, none⟩ u).heap.size ∧ Below B w ((b.setCell ⟨Q, 0, none⟩ v).setCell ⟨Q, 1, none⟩ u)) := fun b Q v u h h2 => by
              have x0 := Bx.set (b := b) (q := Q) h.1 ⟨h2.1, h2.2.1⟩ v u
              have x1 := Bx.set (b := b) (q := Q) h.2.1 ⟨h2.2.2.2.1, h2.2.2.2.2.1⟩ v u
              have x2 := Bx.set (b := b) (q := Q) h.2.2 ⟨h2.2.2.2.2.2.2.1, h2.2.2.2.2.2.2.2.1⟩ v u
              exact ⟨x0.1, x0.2, x0.lt, x1.1, x1.2, x1.lt, x2.1, x2.2, x2.lt, (h2.2.2.2.2.2.2.2.2.2.setCell (Nat.le_of_lt h.1) v).setCell (Nat.le_of_lt h.1) u⟩
          have HSET : Hid _ := hset
          clear hset
          have HCL : Hid _ := hcl
          clear hcl
          have hS0 := (⟨x0.1, x0.2, x0.lt, x1.1, x1.2, x1.lt, x2.1, x2.2, x2.lt, xb⟩ : wc.cell? ⟨B, 0, none⟩ = some (.bool ai) ∧ wc.cell? ⟨B, 1, none⟩ = some (.int .i64 an) ∧ B < wc.heap.size ∧ wc.cell? ⟨B + 1, 0, none⟩ = some (.bool bi) ∧ wc.cell? ⟨B + 1, 1, none⟩ = some (.int .i64 bn) ∧ B + 1 < wc.heap.size ∧ wc.cell? ⟨s, 0, none⟩ = some (.bool (meetI ai an bi bn)) ∧ wc.cell? ⟨s, 1, none⟩ = some (.int .i64 (meetN ai an bi bn)) ∧ s < wc.heap.size ∧ Below B w wc)
          have lt0 := x0.lt
          have lt1 := x1.lt
          have lt2 := x2.lt
          clear x0 x1 x2 xb
          have mk1 : ∀ (wx : World) (t : Nat), (wx.cell? ⟨B, 0, none⟩ = some (.bool ai) ∧ wx.cell? ⟨B, 1, none⟩ = some (.int .i64 an) ∧ B < wx.heap.size ∧ wx.cell? ⟨B + 1, 0, none⟩ = some (.bool bi) ∧ wx.cell? ⟨B + 1, 1, none⟩ = some (.int .i64 bn) ∧ B + 1 < wx.heap.size ∧ wx.cell? ⟨s, 0, none⟩ = some (.bool (meetI ai an bi bn)) ∧ wx.cell? ⟨s, 1, none⟩ = some (.int .i64 (meetN ai an bi bn)) ∧ s < wx.heap.size ∧ Below B w wx) → Bx wx t (joinI ai an bi bn) (joinN ai an bi bn) → Hid (Bx wx B ai an ∧ Bx wx (B + 1) bi bn ∧ Bx wx s (meetI ai an bi bn) (meetN ai an bi bn) ∧ Bx wx t (joinI ai an bi bn) (joinN ai an bi bn) ∧ Below B w wx) := fun wx t h1 h2 => ⟨⟨h1.1, h1.2.1⟩, ⟨h1.2.2.2.1, h1.2.2.2.2.1⟩, ⟨h1.2.2.2.2.2.2.1, h1.2.2.2.2.2.2.2.1⟩, h2, h1.2.2.2.2.2.2.2.2.2⟩
          go_cut [15] (fun v15 wx => ∃ t, v15 = .pointer (some ⟨t, 0, none⟩) ∧ Hid (Bx wx B ai an ∧ Bx wx (B + 1) bi bn ∧ Bx wx s (meetI ai an bi bn) (meetN ai an bi bn) ∧ Bx wx t (joinI ai an bi bn) (joinN ai an bi bn) ∧ Below B w wx))
          case first =>
            go_region_held3 (fun w' => w'.cell? ⟨B, 0, none⟩ = some (.bool ai) ∧ w'.cell? ⟨B, 1, none⟩ = some (.int .i64 an) ∧ B < w'.heap.size ∧ w'.cell? ⟨B + 1, 0, none⟩ = some (.bool bi) ∧ w'.cell? ⟨B + 1, 1, none⟩ = some (.int .i64 bn) ∧ B + 1 < w'.heap.size ∧ w'.cell? ⟨s, 0, none⟩ = some (.bool (meetI ai an bi bn)) ∧ w'.cell? ⟨s, 1, none⟩ = some (.int .i64 (meetN ai an bi bn)) ∧ s < w'.heap.size ∧ Below B w w')
              ((first | assumption | exact hS0 | exact hS0 _ | exact HCL.out _ _ hS0 ((Below.refl _ _).drew) | exact HCL.out _ _ (hS0 _) ((Below.refl _ _).drew) | exact HCL.out _ _ (by assumption) ((Below.refl _ _).drew) | exact HCL.out _ _ (by assumption) ((Below.refl _ _).alloc (Nat.le_refl _) _) | exact HCL.out _ _ (by assumption) (((Below.refl _ _).alloc (Nat.le_refl _) _).alloc (by simp) _) | exact HSET.out _ _ _ _ (by omega) (by assumption)))
              ((first
                | (go_at_call 8; refine (to_any _ _ _).mono ?_; rintro e w2 ⟨rfl, o1, o2, rfl⟩)
                | (go_at_call 17; refine (liftw (join_any _ _ _ _ _) (by assumption) HCL.out).mono ?_; rintro e w2 ⟨rfl, h2, hc2, hf2, hl2⟩)
                | fail))
            all_goals (go_wp2; go_meet; case rel => exact ⟨_, rfl, mk1 _ _ (by assumption) (by first | exact Bx.new _ _ _ _ | exact Bx.wrote (v := .bool false) (u := .int .i64 0) ((hc2 _ _ (by simp; try omega)).trans (by simp [go_sem])) ((hc2 _ _ (by simp; try omega)).trans (by simp [go_sem])))⟩)
          case rest =>
            obtain ⟨t, rfl, HL2⟩ := hcut
            clear mk1 hS0 HCL HSET HL lt0 lt1 lt2
            have HL := HL2
            clear HL2
            obtain ⟨y0, y1, y2, y3, y4⟩ := HL.out
            have hcl : ∀ a b : World, (a.cell? ⟨B, 0, none⟩ = some (.bool ai) ∧ a.cell? ⟨B, 1, none⟩ = some (.int .i64 an) ∧ B < a.heap.size ∧ a.cell? ⟨B + 1, 0, none⟩ = some (.bool bi) ∧ a.cell? ⟨B + 1, 1, none⟩ = some (.int .i64 bn) ∧ B + 1 < a.heap.size ∧ a.cell? ⟨s, 0, none⟩ = some (.bool (meetI ai an bi bn)) ∧ a.cell? ⟨s, 1, none⟩ = some (.int .i64 (meetN ai an bi bn)) ∧ s < a.heap.size ∧ a.cell? ⟨t, 0, none⟩ = some (.bool (joinI ai an bi bn)) ∧ a.cell? ⟨t, 1, none⟩ = some (.int .i64 (joinN ai an bi bn)) ∧ t < a.heap.size ∧ Below B w a) → Below a.heap.size a b → (b.cell? ⟨B, 0, none⟩ = some (.bool ai) ∧ b.cell? ⟨B, 1, none⟩ = some (.int .i64 an) ∧ B < b.heap.size ∧ b.cell? ⟨B + 1, 0, none⟩ = some (.bool bi) ∧ b.cell? ⟨B + 1, 1, none⟩ = some (.int .i64 bn) ∧ B + 1 < b.heap.size ∧ b.cell? ⟨s, 0, none⟩ = some (.bool (meetI ai an bi bn)) ∧ b.cell? ⟨s, 1, none⟩ = some (.int .i64 (meetN ai an bi bn)) ∧ s < b.heap.size ∧ b.cell? ⟨t, 0, none⟩ = some (.bool (joinI ai an bi bn)) ∧ b.cell? ⟨t, 1, none⟩ = some (.int .i64 (joinN ai an bi bn)) ∧ t < b.heap.size ∧ Below B w b) := fun a b h hb => by
                have x0 := Bx.keep ⟨h.1, h.2.1⟩ hb
                have x1 := Bx.keep ⟨h.2.2.2.1, h.2.2.2.2.1⟩ hb
                have x2 := Bx.keep ⟨h.2.2.2.2.2.2.1, h.2.2.2.2.2.2.2.1⟩ hb
                have x3 := Bx.keep ⟨h.2.2.2.2.2.2.2.2.2.1, h.2.2.2.2.2.2.2.2.2.2.1⟩ hb
                exact ⟨x0.1, x0.2, x0.lt, x1.1, x1.2, x1.lt, x2.1, x2.2, x2.lt, x3.1, x3.2, x3.lt, h.2.2.2.2.2.2.2.2.2.2.2.2.trans (hb.mono (Nat.le_of_lt (World.block_lt_of_cell? a _ h.1)))⟩
            have hset : ∀ (b : World) (Q : Nat) (v u : Value), (B < Q ∧ B + 1 < Q ∧ s < Q ∧ t < Q) → (b.cell? ⟨B, 0, none⟩ = some (.bool ai) ∧ b.cell? ⟨B, 1, none⟩ = some (.int .i64 an) ∧ B < b.heap.size ∧ b.cell? ⟨B + 1, 0, none⟩ = some (.bool bi) ∧ b.cell? ⟨B + 1, 1, none⟩ = some (.int .i64 bn) ∧ B + 1 < b.heap.size ∧ b.cell? ⟨s, 0, none⟩ = some (.bool (meetI ai an bi bn)) ∧ b.cell? ⟨s, 1, none⟩ = some (.int .i64 (meetN ai an bi bn)) ∧ s < b.heap.size ∧ b.cell? ⟨t, 0, none⟩ = some (.bool (joinI ai an bi bn)) ∧ b.cell? ⟨t, 1, none⟩ = some (.int .i64 (joinN ai an bi bn)) ∧ t < b.heap.size ∧ Below B w b) → (((b.setCell ⟨Q, 0, none⟩ v).setCell ⟨Q, 1, none⟩ u).cell? ⟨B, 0, none⟩ = some (.bool ai) ∧ ((b.setCell ⟨Q, 0, none⟩ v).setCell ⟨Q, 1, none⟩ u).cell? ⟨B, 1, none⟩ = some (.int .i64 an) ∧ B < ((b.setCell ⟨Q, 0, none⟩ v).setCell ⟨Q, 1, none⟩ u).heap.size ∧ ((b.setCell ⟨Q, 0, none⟩ v).setCell ⟨Q, 1, none⟩ u).cell? ⟨B + 1, 0, none⟩ = some (.bool bi) ∧ ((b.setCell ⟨Q, 0, none⟩ v).setCell ⟨Q, 1, none⟩ u).cell? ⟨B + 1, 1, none⟩ = some (.int .i64 bn) ∧ B + 1 < ((b.setCell ⟨Q, 0, none⟩ v).setCell ⟨Q, 1, none⟩ u).heap.size ∧ ((b.setCell ⟨Q, 0, none⟩ v).setCell ⟨Q, 1, none⟩ u).cell? ⟨s, 0, none⟩ = some (.bool (meetI ai an bi bn)) ∧ ((b.setCell ⟨Q, 0, none⟩ v).setCell ⟨Q, 1, none⟩ u).cell? ⟨s, 1, none⟩ = some (.int .i64 (meetN ai an bi bn)) ∧ s < ((b.setCell ⟨Q, 0, none⟩ v).setCell ⟨Q, 1, none⟩ u).heap.size ∧ ((b.setCell ⟨Q, 0, none⟩ v).setCell ⟨Q, 1, none⟩ u).cell? ⟨t, 0, none⟩ = some (.bool (joinI ai an bi bn)) ∧ ((b.setCell ⟨Q, 0, none⟩ v).setCell ⟨Q, 1, none⟩ u).cell? ⟨t, 1, none⟩ = some (.int .i64 (joinN ai an bi bn)) ∧ t < ((b.setCell ⟨Q, 0, none⟩ v).setCell ⟨Q, 1, none⟩ u).heap.size ∧ Below B w ((b.setCell ⟨Q, 0, none⟩ v).setCell ⟨Q, 1, none⟩ u)) := fun b Q v u h h2 => by
                have x0 := Bx.set (b := b) (q := Q) h.1 ⟨h2.1, h2.2.1⟩ v u
                have x1 := Bx.set (b := b) (q := Q) h.2.1 ⟨h2.2.2.2.1, h2.2.2.2.2.1⟩ v u
                have x2 := Bx.set (b := b) (q := Q) h.2.2.1 ⟨h2.2.2.2.2.2.2.1, h2.2.2.2.2.2.2.2.1⟩ v u
                have x3 := Bx.set (b := b) (q := Q) h.2.2.2 ⟨h2.2.2.2.2.2.2.2.2.2.1, h2.2.2.2.2.2.2.2.2.2.2.1⟩ v u
                exact ⟨x0.1, x0.2, x0.lt, x1.1, x1.2, x1.lt, x2.1, x2.2, x2.lt, x3.1, x3.2, x3.lt, (h2.2.2.2.2.2.2.2.2.2.2.2.2.setCell (Nat.le_of_lt h.1) v).setCell (Nat.le_of_lt h.1) u⟩
            have HSET : Hid _ := hset
            clear hset
            have HCL : Hid _ := hcl
            clear hcl
            have hS0 := (⟨y0.1, y0.2, y0.lt, y1.1, y1.2, y1.lt, y2.1, y2.2, y2.lt, y3.1, y3.2, y3.lt, y4⟩ : wc.cell? ⟨B, 0, none⟩ = some (.bool ai) ∧ wc.cell? ⟨B, 1, none⟩ = some (.int .i64 an) ∧ B < wc.heap.size ∧ wc.cell? ⟨B + 1, 0, none⟩ = some (.bool bi) ∧ wc.cell? ⟨B + 1, 1, none⟩ = some (.int .i64 bn) ∧ B + 1 < wc.heap.size ∧ wc.cell? ⟨s, 0, none⟩ = some (.bool (meetI ai an bi bn)) ∧ wc.cell? ⟨s, 1, none⟩ = some (.int .i64 (meetN ai an bi bn)) ∧ s < wc.heap.size ∧ wc.cell? ⟨t, 0, none⟩ = some (.bool (joinI ai an bi bn)) ∧ wc.cell? ⟨t, 1, none⟩ = some (.int .i64 (joinN ai an bi bn)) ∧ t < wc.heap.size ∧ Below B w wc)
            clear y0 y1 y2 y3 y4 HL
            have mk8 : ∀ wx : World, (wx.cell? ⟨B, 0, none⟩ = some (.bool ai) ∧ wx.cell? ⟨B, 1, none⟩ = some (.int .i64 an) ∧ B < wx.heap.size ∧ wx.cell? ⟨B + 1, 0, none⟩ = some (.bool bi) ∧ wx.cell? ⟨B + 1, 1, none⟩ = some (.int .i64 bn) ∧ B + 1 < wx.heap.size ∧ wx.cell? ⟨s, 0, none⟩ = some (.bool (meetI ai an bi bn)) ∧ wx.cell? ⟨s, 1, none⟩ = some (.int .i64 (meetN ai an bi bn)) ∧ s < wx.heap.size ∧ wx.cell? ⟨t, 0, none⟩ = some (.bool (joinI ai an bi bn)) ∧ wx.cell? ⟨t, 1, none⟩ = some (.int .i64 (joinN ai an bi bn)) ∧ t < wx.heap.size ∧ Below B w wx) → Below w.heap.size w wx := fun wx h => by
              have h' := h.2.2.2.2.2.2.2.2.2.2.2.2
              rwa [HB.out] at h'
            obtain ⟨k5, k6⟩ := rises3 ai an bi bn
            go_upto_region 8 with fail
            by_cases ok : meetOk ai an bi bn = true
            · obtain ⟨k3, k4⟩ := rises2 ai an bi bn ok
              first
                | (go_region_held3 (fun w' => w'.cell? ⟨B, 0, none⟩ = some (.bool ai) ∧ w'.cell? ⟨B, 1, none⟩ = some (.int .i64 an) ∧ B < w'.heap.size ∧ w'.cell? ⟨B + 1, 0, none⟩ = some (.bool bi) ∧ w'.cell? ⟨B + 1, 1, none⟩ = some (.int .i64 bn) ∧ B + 1 < w'.heap.size ∧ w'.cell? ⟨s, 0, none⟩ = some (.bool (meetI ai an bi bn)) ∧ w'.cell? ⟨s, 1, none⟩ = some (.int .i64 (meetN ai an bi bn)) ∧ s < w'.heap.size ∧ w'.cell? ⟨t, 0, none⟩ = some (.bool (joinI ai an bi bn)) ∧ w'.cell? ⟨t, 1, none⟩ = some (.int .i64 (joinN ai an bi bn)) ∧ t < w'.heap.size ∧ Below B w w')
                  ((first | assumption | exact hS0 | exact hS0 _ | exact HCL.out _ _ hS0 ((Below.refl _ _).drew) | exact HCL.out _ _ (hS0 _) ((Below.refl _ _).drew) | exact HCL.out _ _ (by assumption) ((Below.refl _ _).drew) | exact HCL.out _ _ (by assumption) ((Below.refl _ _).alloc (Nat.le_refl _) _) | exact HCL.out _ _ (by assumption) (((Below.refl _ _).alloc (Nat.le_refl _) _).alloc (by simp) _) | exact HSET.out _ _ _ _ (by omega) (by assumption)))
                  ((first
                    | (go_at_call 8; refine (lift (bel2 (to_any _ _ _)) (by assumption) HCL.out).mono ?_; rintro e w2 ⟨rfl, h2⟩)
                    | (go_at_call 19; refine (lift (within_any _ _ _ _ _) (by assumption) HCL.out).mono ?_; rintro e w2 ⟨rfl, h2⟩)
                    | fail)))
                | fail
              all_goals (go_wp2; go_ret; exact ⟨rfl, mk8 _ (by assumption)⟩)
            · have ok' : meetOk ai an bi bn = false := by simpa using ok
              refine wp_region_held_drew (S := fun w' => w'.cell? ⟨B, 0, none⟩ = some (.bool ai) ∧ w'.cell? ⟨B, 1, none⟩ = some (.int .i64 an) ∧ B < w'.heap.size ∧ w'.cell? ⟨B + 1, 0, none⟩ = some (.bool bi) ∧ w'.cell? ⟨B + 1, 1, none⟩ = some (.int .i64 bn) ∧ B + 1 < w'.heap.size ∧ w'.cell? ⟨s, 0, none⟩ = some (.bool (meetI ai an bi bn)) ∧ w'.cell? ⟨s, 1, none⟩ = some (.int .i64 (meetN ai an bi bn)) ∧ s < w'.heap.size ∧ w'.cell? ⟨t, 0, none⟩ = some (.bool (joinI ai an bi bn)) ∧ w'.cell? ⟨t, 1, none⟩ = some (.int .i64 (joinN ai an bi bn)) ∧ t < w'.heap.size ∧ Below B w w') (by kernel_rfl) (HCL.out _ _ hS0 ((Below.refl _ _).drew)) (fun hHeld => ?_)
              refine wpAnyH_take (i := 0) (oi := { dst := some 82, op := Op.move (Operand.tmp 14), type := 4, pos := "law.go:88", after := #[], guard := none }) (v := ?_) rfl (by kernel_rfl) (by kernel_rfl) (by kernel_rfl) (fun _ _ _ h => h) (Or.inl ⟨by rfl, ?_⟩) (by assumption) ?_
              rotate_left
              · (intro wz hSw; (try dsimp only at hSw); go_simp; try with_reducible rfl)
              simp only [Act.put, List.setIfInBounds_toArray, List.set_cons_zero, List.set_cons_succ]
              refine wpAnyH_take (i := 1) (oi := { dst := some 83, op := Op.unOp UnOp.not 4 (Operand.tmp 82), type := 4, pos := "law.go:88", after := #[{ on := 0, ground := Ground.data }], guard := none }) (v := ?_) rfl (by kernel_rfl) (by kernel_rfl) (by kernel_rfl) (fun _ _ _ h => h) (Or.inl ⟨by rfl, ?_⟩) (by assumption) ?_
              rotate_left
              · (intro wz hSw; (try dsimp only at hSw); go_simp; try with_reducible rfl)
              simp only [Act.put, List.setIfInBounds_toArray, List.set_cons_zero, List.set_cons_succ]
              refine wpAnyH_take (i := 2) (oi := { dst := some 84, op := Op.move (Operand.tmp 83), type := 4, pos := "law.go:88", after := #[{ on := 1, ground := Ground.data }], guard := none }) (v := ?_) rfl (by kernel_rfl) (by kernel_rfl) (by kernel_rfl) (fun _ _ _ h => h) (Or.inl ⟨by rfl, ?_⟩) (by assumption) ?_
              rotate_left
              · (intro wz hSw; (try dsimp only at hSw); go_simp; try with_reducible rfl)
              simp only [Act.put, List.setIfInBounds_toArray, List.set_cons_zero, List.set_cons_succ]
              refine wpAnyH_take (i := 3) (oi := { dst := some 85, op := Op.load 24 (Operand.tmp 13), type := 24, pos := "law.go:88", after := #[{ on := 2, ground := Ground.guard }], guard := some (2, false) }) (v := undef) rfl (by kernel_rfl) (by kernel_rfl) (by kernel_rfl) (fun _ _ _ h => h) (Or.inr ⟨by rfl, rfl⟩) (by assumption) ?_
              simp only [Act.put, List.setIfInBounds_toArray, List.set_cons_zero, List.set_cons_succ]
              refine wpAnyH_take (i := 4) (oi := { dst := some 86, op := Op.load 23 (Operand.tmp 4), type := 23, pos := "law.go:88", after := #[{ on := 2, ground := Ground.guard }], guard := some (2, false) }) (v := undef) rfl (by kernel_rfl) (by kernel_rfl) (by kernel_rfl) (fun _ _ _ h => h) (Or.inr ⟨by rfl, rfl⟩) (by assumption) ?_
              simp only [Act.put, List.setIfInBounds_toArray, List.set_cons_zero, List.set_cons_succ]
              refine wpAnyH_ready (rs := [5]) (by kernel_rfl) (by simp) ?_
              refine AllReadyH.cons (o := { dst := some 87, op := Op.call { callee := Callee.value (Operand.func 8), args := #[Operand.tmp 86], argTypes := #[23] }, type := 24, pos := "law.go:88", after := #[{ on := 4, ground := Ground.data }, { on := 2, ground := Ground.chain }, { on := 2, ground := Ground.guard }], guard := some (2, false) }) rfl (fun K hK => ?_) AllReadyH.nil
              go_simp
              refine hK.out _ _ (by assumption) (fun hHeld => ?_)
              clear hK K
              refine wpAnyH_ready (rs := [6]) (by kernel_rfl) (by simp) ?_
              refine AllReadyH.cons (o := { dst := some 88, op := Op.call { callee := Callee.value (Operand.func 19), args := #[Operand.tmp 85, Operand.tmp 87], argTypes := #[24, 24] }, type := 4, pos := "law.go:88", after := #[{ on := 3, ground := Ground.data }, { on := 5, ground := Ground.data }, { on := 5, ground := Ground.chain }, { on := 2, ground := Ground.guard }], guard := some (2, false) }) rfl (fun K hK => ?_) AllReadyH.nil
              go_simp
              refine hK.out _ _ (by assumption) (fun hHeld => ?_)
              clear hK K
              refine wpAnyH_take (i := 7) (oi := { dst := some 89, op := Op.move (Operand.tmp 88), type := 4, pos := "law.go:88", after := #[{ on := 6, ground := Ground.data }, { on := 6, ground := Ground.chain }, { on := 2, ground := Ground.guard }], guard := some (2, false) }) (v := undef) rfl (by kernel_rfl) (by kernel_rfl) (by kernel_rfl) (fun _ _ _ h => h) (Or.inr ⟨by rfl, rfl⟩) (by assumption) ?_
              simp only [Act.put, List.setIfInBounds_toArray, List.set_cons_zero, List.set_cons_succ]
              refine wpAnyH_take (i := 8) (oi := { dst := some 90, op := Op.load 24 (Operand.tmp 13), type := 24, pos := "law.go:88", after := #[{ on := 7, ground := Ground.guard }], guard := some (7, true) }) (v := undef) rfl (by kernel_rfl) (by kernel_rfl) (by kernel_rfl) (fun _ _ _ h => h) (Or.inr ⟨by rfl, rfl⟩) (by assumption) ?_
              simp only [Act.put, List.setIfInBounds_toArray, List.set_cons_zero, List.set_cons_succ]
              refine wpAnyH_take (i := 9) (oi := { dst := some 91, op := Op.load 23 (Operand.tmp 5), type := 23, pos := "law.go:88", after := #[{ on := 7, ground := Ground.guard }], guard := some (7, true) }) (v := undef) rfl (by kernel_rfl) (by kernel_rfl) (by kernel_rfl) (fun _ _ _ h => h) (Or.inr ⟨by rfl, rfl⟩) (by assumption) ?_
              simp only [Act.put, List.setIfInBounds_toArray, List.set_cons_zero, List.set_cons_succ]
              refine wpAnyH_ready (rs := [10]) (by kernel_rfl) (by simp) ?_
              refine AllReadyH.cons (o := { dst := some 92, op := Op.call { callee := Callee.value (Operand.func 8), args := #[Operand.tmp 91], argTypes := #[23] }, type := 24, pos := "law.go:88", after := #[{ on := 9, ground := Ground.data }, { on := 7, ground := Ground.chain }, { on := 7, ground := Ground.guard }], guard := some (7, true) }) rfl (fun K hK => ?_) AllReadyH.nil
              go_simp
              refine hK.out _ _ (by assumption) (fun hHeld => ?_)
              clear hK K
              refine wpAnyH_ready (rs := [11]) (by kernel_rfl) (by simp) ?_
              refine AllReadyH.cons (o := { dst := some 93, op := Op.call { callee := Callee.value (Operand.func 19), args := #[Operand.tmp 90, Operand.tmp 92], argTypes := #[24, 24] }, type := 4, pos := "law.go:88", after := #[{ on := 8, ground := Ground.data }, { on := 10, ground := Ground.data }, { on := 10, ground := Ground.chain }, { on := 7, ground := Ground.guard }], guard := some (7, true) }) rfl (fun K hK => ?_) AllReadyH.nil
              go_simp
              refine hK.out _ _ (by assumption) (fun hHeld => ?_)
              clear hK K
              refine wpAnyH_take (i := 12) (oi := { dst := some 94, op := Op.pick (Operand.tmp 89) (Operand.tmp 93) (Operand.const (Value.bool false)), type := 4, pos := "law.go:88", after := #[{ on := 7, ground := Ground.data }, { on := 11, ground := Ground.data }, { on := 2, ground := Ground.guard }], guard := some (2, false) }) (v := undef) rfl (by kernel_rfl) (by kernel_rfl) (by kernel_rfl) (fun _ _ _ h => h) (Or.inr ⟨by rfl, rfl⟩) (by assumption) ?_
              simp only [Act.put, List.setIfInBounds_toArray, List.set_cons_zero, List.set_cons_succ]
              refine wpAnyH_take (i := 13) (oi := { dst := some 95, op := Op.pick (Operand.tmp 84) (Operand.const (Value.bool true)) (Operand.tmp 94), type := 4, pos := "law.go:88", after := #[{ on := 2, ground := Ground.data }, { on := 12, ground := Ground.data }], guard := none }) (v := ?_) rfl (by kernel_rfl) (by kernel_rfl) (by kernel_rfl) (fun _ _ _ h => h) (Or.inl ⟨by rfl, ?_⟩) (by assumption) ?_
              rotate_left
              · (intro wz hSw; (try dsimp only at hSw); go_simp; try with_reducible rfl)
              simp only [Act.put, List.setIfInBounds_toArray, List.set_cons_zero, List.set_cons_succ]
              refine wpAnyH_take (i := 14) (oi := { dst := some 96, op := Op.move (Operand.tmp 95), type := 4, pos := "law.go:88", after := #[{ on := 13, ground := Ground.data }, { on := 11, ground := Ground.chain }], guard := none }) (v := ?_) rfl (by kernel_rfl) (by kernel_rfl) (by kernel_rfl) (fun _ _ _ h => h) (Or.inl ⟨by rfl, ?_⟩) (by assumption) ?_
              rotate_left
              · (intro wz hSw; (try dsimp only at hSw); go_simp; try with_reducible rfl)
              simp only [Act.put, List.setIfInBounds_toArray, List.set_cons_zero, List.set_cons_succ]
              refine wpAnyH_take (i := 15) (oi := { dst := some 97, op := Op.load 23 (Operand.tmp 4), type := 23, pos := "law.go:88", after := #[{ on := 14, ground := Ground.guard }], guard := some (14, true) }) (v := ?_) rfl (by kernel_rfl) (by kernel_rfl) (by kernel_rfl) (fun _ _ _ h => h) (Or.inl ⟨by rfl, ?_⟩) (by assumption) ?_
              rotate_left
              · (intro wz hSw; (try dsimp only at hSw); go_simp; try with_reducible rfl)
              simp only [Act.put, List.setIfInBounds_toArray, List.set_cons_zero, List.set_cons_succ]
              refine wpAnyH_take (i := 17) (oi := { dst := some 99, op := Op.load 24 (Operand.tmp 15), type := 24, pos := "law.go:88", after := #[{ on := 14, ground := Ground.guard }], guard := some (14, true) }) (v := ?_) rfl (by kernel_rfl) (by kernel_rfl) (by kernel_rfl) (fun _ _ _ h => h) (Or.inl ⟨by rfl, ?_⟩) (by assumption) ?_
              rotate_left
              · (intro wz hSw; (try dsimp only at hSw); go_simp; try with_reducible rfl)
              simp only [Act.put, List.setIfInBounds_toArray, List.set_cons_zero, List.set_cons_succ]
              refine wpAnyH_ready (rs := [16]) (by kernel_rfl) (by simp) ?_
              refine AllReadyH.cons (o := { dst := some 98, op := Op.call { callee := Callee.value (Operand.func 8), args := #[Operand.tmp 97], argTypes := #[23] }, type := 24, pos := "law.go:88", after := #[{ on := 15, ground := Ground.data }, { on := 14, ground := Ground.chain }, { on := 14, ground := Ground.guard }], guard := some (14, true) }) rfl (fun K hK => ?_) AllReadyH.nil
              go_simp
              go_at_call 8
              refine (lift (bel2 (to_any _ _ _)) (by assumption) HCL.out).mono ?_
              rintro e w2 ⟨rfl, h2⟩
              refine hK.out _ _ h2 (fun hHeld => ?_)
              clear hK K
              refine wpAnyH_ready (rs := [18]) (by kernel_rfl) (by simp) ?_
              refine AllReadyH.cons (o := { dst := some 100, op := Op.call { callee := Callee.value (Operand.func 19), args := #[Operand.tmp 98, Operand.tmp 99], argTypes := #[24, 24] }, type := 4, pos := "law.go:88", after := #[{ on := 16, ground := Ground.data }, { on := 17, ground := Ground.data }, { on := 16, ground := Ground.chain }, { on := 14, ground := Ground.guard }], guard := some (14, true) }) rfl (fun K hK => ?_) AllReadyH.nil
              go_simp
              go_at_call 19
              refine (lift (within_any _ _ _ _ _) (by assumption) HCL.out).mono ?_
              rintro e w2 ⟨rfl, h2⟩
              refine hK.out _ _ h2 (fun hHeld => ?_)
              clear hK K
              refine wpAnyH_take (i := 19) (oi := { dst := some 101, op := Op.pick (Operand.tmp 96) (Operand.tmp 100) (Operand.const (Value.bool false)), type := 4, pos := "law.go:88", after := #[{ on := 14, ground := Ground.data }, { on := 18, ground := Ground.data }], guard := none }) (v := ?_) rfl (by kernel_rfl) (by kernel_rfl) (by kernel_rfl) (fun _ _ _ h => h) (Or.inl ⟨by rfl, ?_⟩) (by assumption) ?_
              rotate_left
              · (intro wz hSw; (try dsimp only at hSw); go_simp; try with_reducible rfl)
              simp only [Act.put, List.setIfInBounds_toArray, List.set_cons_zero, List.set_cons_succ]
              refine wpAnyH_take (i := 20) (oi := { dst := some 102, op := Op.move (Operand.tmp 101), type := 4, pos := "law.go:88", after := #[{ on := 19, ground := Ground.data }, { on := 18, ground := Ground.chain }], guard := none }) (v := ?_) rfl (by kernel_rfl) (by kernel_rfl) (by kernel_rfl) (fun _ _ _ h => h) (Or.inl ⟨by rfl, ?_⟩) (by assumption) ?_
              rotate_left
              · (intro wz hSw; (try dsimp only at hSw); go_simp; try with_reducible rfl)
              simp only [Act.put, List.setIfInBounds_toArray, List.set_cons_zero, List.set_cons_succ]
              refine wpAnyH_take (i := 21) (oi := { dst := some 103, op := Op.load 23 (Operand.tmp 5), type := 23, pos := "law.go:88", after := #[{ on := 20, ground := Ground.guard }], guard := some (20, true) }) (v := ?_) rfl (by kernel_rfl) (by kernel_rfl) (by kernel_rfl) (fun _ _ _ h => h) (Or.inl ⟨by rfl, ?_⟩) (by assumption) ?_
              rotate_left
              · (intro wz hSw; (try dsimp only at hSw); go_simp; try with_reducible rfl)
              simp only [Act.put, List.setIfInBounds_toArray, List.set_cons_zero, List.set_cons_succ]
              refine wpAnyH_take (i := 23) (oi := { dst := some 105, op := Op.load 24 (Operand.tmp 15), type := 24, pos := "law.go:88", after := #[{ on := 20, ground := Ground.guard }], guard := some (20, true) }) (v := ?_) rfl (by kernel_rfl) (by kernel_rfl) (by kernel_rfl) (fun _ _ _ h => h) (Or.inl ⟨by rfl, ?_⟩) (by assumption) ?_
              rotate_left
              · (intro wz hSw; (try dsimp only at hSw); go_simp; try with_reducible rfl)
              simp only [Act.put, List.setIfInBounds_toArray, List.set_cons_zero, List.set_cons_succ]
              refine wpAnyH_ready (rs := [22]) (by kernel_rfl) (by simp) ?_
              refine AllReadyH.cons (o := { dst := some 104, op := Op.call { callee := Callee.value (Operand.func 8), args := #[Operand.tmp 103], argTypes := #[23] }, type := 24, pos := "law.go:88", after := #[{ on := 21, ground := Ground.data }, { on := 20, ground := Ground.chain }, { on := 20, ground := Ground.guard }], guard := some (20, true) }) rfl (fun K hK => ?_) AllReadyH.nil
              go_simp
              go_at_call 8
              refine (lift (bel2 (to_any _ _ _)) (by assumption) HCL.out).mono ?_
              rintro e w2 ⟨rfl, h2⟩
              refine hK.out _ _ h2 (fun hHeld => ?_)
              clear hK K
              refine wpAnyH_ready (rs := [24]) (by kernel_rfl) (by simp) ?_
              refine AllReadyH.cons (o := { dst := some 106, op := Op.call { callee := Callee.value (Operand.func 19), args := #[Operand.tmp 104, Operand.tmp 105], argTypes := #[24, 24] }, type := 4, pos := "law.go:88", after := #[{ on := 22, ground := Ground.data }, { on := 23, ground := Ground.data }, { on := 22, ground := Ground.chain }, { on := 20, ground := Ground.guard }], guard := some (20, true) }) rfl (fun K hK => ?_) AllReadyH.nil
              go_simp
              go_at_call 19
              refine (lift (within_any _ _ _ _ _) (by assumption) HCL.out).mono ?_
              rintro e w2 ⟨rfl, h2⟩
              refine hK.out _ _ h2 (fun hHeld => ?_)
              clear hK K
              refine wpAnyH_take (i := 25) (oi := { dst := some 107, op := Op.pick (Operand.tmp 102) (Operand.tmp 106) (Operand.const (Value.bool false)), type := 4, pos := "law.go:88", after := #[{ on := 20, ground := Ground.data }, { on := 24, ground := Ground.data }], guard := none }) (v := ?_) rfl (by kernel_rfl) (by kernel_rfl) (by kernel_rfl) (fun _ _ _ h => h) (Or.inl ⟨by rfl, ?_⟩) (by assumption) ?_
              rotate_left
              · (intro wz hSw; (try dsimp only at hSw); go_simp; try with_reducible rfl)
              simp only [Act.put, List.setIfInBounds_toArray, List.set_cons_zero, List.set_cons_succ]
              refine wpAnyH_take (i := 26) (oi := { dst := some 6, op := Op.assign (Operand.tmp 107), type := 4, pos := "law.go:88", after := #[{ on := 25, ground := Ground.data }, { on := 24, ground := Ground.chain }, { on := 0, ground := Ground.phase }, { on := 1, ground := Ground.phase }, { on := 2, ground := Ground.phase }, { on := 3, ground := Ground.phase }, { on := 4, ground := Ground.phase }, { on := 5, ground := Ground.phase }, { on := 6, ground := Ground.phase }, { on := 7, ground := Ground.phase }, { on := 8, ground := Ground.phase }, { on := 9, ground := Ground.phase }, { on := 10, ground := Ground.phase }, { on := 11, ground := Ground.phase }, { on := 12, ground := Ground.phase }, { on := 13, ground := Ground.phase }, { on := 14, ground := Ground.phase }, { on := 15, ground := Ground.phase }, { on := 16, ground := Ground.phase }, { on := 17, ground := Ground.phase }, { on := 18, ground := Ground.phase }, { on := 19, ground := Ground.phase }, { on := 20, ground := Ground.phase }, { on := 21, ground := Ground.phase }, { on := 22, ground := Ground.phase }, { on := 23, ground := Ground.phase }, { on := 24, ground := Ground.phase }, { on := 25, ground := Ground.phase }], guard := none }) (v := ?_) rfl (by kernel_rfl) (by kernel_rfl) (by kernel_rfl) (fun _ _ _ h => h) (Or.inl ⟨by rfl, ?_⟩) (by assumption) ?_
              rotate_left
              · (intro wz hSw; (try dsimp only at hSw); go_simp; try with_reducible rfl)
              simp only [Act.put, List.setIfInBounds_toArray, List.set_cons_zero, List.set_cons_succ]
              refine wpAnyH_done (by kernel_rfl) ?_ _
              all_goals (go_wp2; go_ret; exact ⟨rfl, mk8 _ (by assumption)⟩)
end Go.Proofs.Ytmpmefnaepnfnaa
