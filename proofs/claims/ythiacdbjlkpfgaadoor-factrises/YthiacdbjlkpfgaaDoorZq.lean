import Derived.Test.YthiacdbjlkpfgaaDoorZr2
namespace Go.Proofs.YthiacdbjlkpfgaaDoor
open Go.RowKit
structure Fi (w W : World) (N k7 k9 t10 t12 : Nat) (X Z x y : V) : Prop where
  a : Br W k7 (up X.s) X.k X.n X.lo X.hi (up X.p)
  c : Br W k9 (up Z.s) Z.k Z.n Z.lo Z.hi (up Z.p)
  x : Br W t10 (up x.s) x.k x.n x.lo x.hi (up x.p)
  xf : Fz W t10
  y : Br W t12 (up y.s) y.k y.n y.lo y.hi (up y.p)
  yf : Fz W t12
  bel : Below N w W
  ne : k7 ≠ t10 ∧ k9 ≠ t10 ∧ k7 ≠ t12 ∧ k9 ≠ t12 ∧ t10 ≠ t12 ∧ N ≤ t10 ∧ N ≤ t12
  sz : N ≤ W.heap.size
theorem Fi.keep {w W W' : World} {N k7 k9 t10 t12 : Nat} {X Z x y : V} (h : Fi w W N k7 k9 t10 t12 X Z x y) (hb : Below W.heap.size W W') : Fi w W' N k7 k9 t10 t12 X Z x y :=
  ⟨h.a.keep hb, h.c.keep hb, h.x.keep hb, h.xf.keep h.x.lt hb, h.y.keep hb, h.yf.keep h.y.lt hb, h.bel.trans (hb.mono h.sz), h.ne, Nat.le_trans h.sz hb.size⟩
theorem Fi.setx {w W : World} {N k7 k9 t10 t12 : Nat} {X Z x y : V} (h : Fi w W N k7 k9 t10 t12 X Z x y) (z : V) : Fi w (st6 W t10 (.int .i64 (up z.s)) (.bool z.k) (.int .i64 z.n) (.int .i64 z.lo) (.int .i64 z.hi) (.int .i64 (up z.p))) N k7 k9 t10 t12 X Z z y :=
  ⟨h.a.put h.ne.1 _ _ _ _ _ _, h.c.put h.ne.2.1 _ _ _ _ _ _, h.x.wrote _ _ _ _ _ _, h.xf.put _ _ _ _ _ _, h.y.put (Ne.symm h.ne.2.2.2.2.1) _ _ _ _ _ _, h.yf.put _ _ _ _ _ _, st6_below h.bel _ h.ne.2.2.2.2.2.1 _ _ _ _ _ _, h.ne, by rw [st6_size]; exact h.sz⟩
theorem Fi.sety {w W : World} {N k7 k9 t10 t12 : Nat} {X Z x y : V} (h : Fi w W N k7 k9 t10 t12 X Z x y) (z : V) : Fi w (st6 W t12 (.int .i64 (up z.s)) (.bool z.k) (.int .i64 z.n) (.int .i64 z.lo) (.int .i64 z.hi) (.int .i64 (up z.p))) N k7 k9 t10 t12 X Z x z :=
  ⟨h.a.put h.ne.2.2.1 _ _ _ _ _ _, h.c.put h.ne.2.2.2.1 _ _ _ _ _ _, h.x.put h.ne.2.2.2.2.1 _ _ _ _ _ _, h.xf.put _ _ _ _ _ _, h.y.wrote _ _ _ _ _ _, h.yf.put _ _ _ _ _ _, st6_below h.bel _ h.ne.2.2.2.2.2.2 _ _ _ _ _ _, h.ne, by rw [st6_size]; exact h.sz⟩
theorem globS_at {w v : World} {N : Nat} (hN : N = w.heap.size) (h : GlobS w) (hb : Below N w v) : GlobS v := h.keep (hN ▸ hb)
theorem globP_at {w v : World} {N : Nat} (hN : N = w.heap.size) (h : GlobP w) (hb : Below N w v) : GlobP v := h.keep (hN ▸ hb)
theorem join_in1 (x y : V) : withinV x (joinV x y) = true := (join_in x y).1
set_option maxRecDepth 100000 in
set_option maxHeartbeats 32000000 in
theorem frises_walk (op : Int) (A B C : R) (w : World) (G : GlobS w) (GP : GlobP w) (hA : A.fit) (hB : B.fit) (hC : C.fit) : Calls Tryd.prog 4 #[.int .i64 op, .agg #[.int .i64 A.s, .bool A.k, .int .i64 A.n, .int .i64 A.lo, .int .i64 A.hi, .int .i64 A.p, .int .i64 B.s, .bool B.k, .int .i64 B.n, .int .i64 B.lo, .int .i64 B.hi, .int .i64 B.p], .agg #[.int .i64 C.s, .bool C.k, .int .i64 C.n, .int .i64 C.lo, .int .i64 C.hi, .int .i64 C.p]] w fun e w' => e = .returned (.bool true) ∧ Below w.heap.size w w' := by
  have cA := fun w => fix_V A.s A.k A.n A.lo A.hi A.p w
  have oX := R.ok hA
  have cB := fun w => fix_V B.s B.k B.n B.lo B.hi B.p w
  have oY := R.ok hB
  have cC := fun w => fix_V C.s C.k C.n C.lo C.hi C.p w
  have oZ := R.ok hC
  unfold R.v at *
  generalize fixV A.s A.k A.n A.lo A.hi A.p = X at *
  generalize fixV B.s B.k B.n B.lo B.hi B.p = Y at *
  generalize fixV C.s C.k C.n C.lo C.hi C.p = Z at *
  clear hA hB hC
  have oJ := join_ok X Z oX oZ
  have oK := join_ok Y Z oY oZ
  have cJ := fun w => join_V X Z w oX.p3 oZ.p3
  have cK := fun w => join_V Y Z w oY.p3 oZ.p3
  have wJ := join_in1 X Z
  have wK := join_in1 Y Z
  have wX := self_in X
  have wY := self_in Y
  generalize joinV X Z = J at *
  generalize joinV Y Z = K at *
  have cX := fun w G P => two_V op X Y w oX oY G P
  have cY := fun w G P => two_V op J Y w oJ oY G P
  have cZ := fun w G P => two_V op X K w oX oK G P
  have r1 := two_risesV op X Y J Y oX oY oJ oY wJ wY
  have r2 := two_risesV op X Y X K oX oY oX oK wX wK
  have cO := fun w => one_V op X w oX.sp
  have cV := fun w => one_V op J w oJ.sp
  have r3 := one_risesV op X J oX oJ wJ
  have r4 := fun yes => branch_risesV yes X J oX wJ
  have pX := two_pa op X Y
  have pY := two_pa op J Y
  have pZ := two_pa op X K
  have pO := one_pa op X
  have pV := one_pa op J
  generalize twoV op X Y = TX at *
  generalize twoV op J Y = TY at *
  generalize twoV op X K = TZ at *
  generalize oneV op X = OX at *
  generalize oneV op J = OY at *
  obtain ⟨tx, ix⟩ := TX
  obtain ⟨ty, iy⟩ := TY
  obtain ⟨tz, iz⟩ := TZ
  obtain ⟨ox, jx⟩ := OX
  obtain ⟨oy, jy⟩ := OY
  dsimp only at cX cY cZ r1 r2 cO cV r3 pX pY pZ pO pV
  have u1 := fun w => within_V tx ty w pX pY
  have u2 := fun w => within_V tx tz w pX pZ
  have u3 := fun w => within_V ox oy w pO pV
  have HR : Hid ((ix = true → iy = true ∧ withinV tx ty = true) ∧ (ix = true → iz = true ∧ withinV tx tz = true) ∧ (jx = true → jy = true ∧ withinV ox oy = true) ∧ ∀ yes, (branchV X yes).2 = true → (branchV J yes).2 = true ∧ withinV (branchV X yes).1 (branchV J yes).1 = true) := ⟨r1, r2, r3, r4⟩
  clear r1 r2 r3 r4 wJ wK wX wY oX oY oZ oJ oK pX pY pZ pO pV
  generalize withinV tx ty = b1 at *
  generalize withinV tx tz = b2 at *
  generalize withinV ox oy = b3 at *
  go_enter Tryd.func4, Tryd.ntmps4
  go_upto_region 1 with fail
  go_name_world W hW
  have hS : frS w.heap.size A B C w W := by
    rw [← hW]
    exact ⟨(Bv.new w A B 29).keep ((Below.refl _ _).alloc (Nat.le_refl _) _), (by simpa using Br.new (w.alloc (.cells #[.int .i64 A.s, .bool A.k, .int .i64 A.n, .int .i64 A.lo, .int .i64 A.hi, .int .i64 A.p, .int .i64 B.s, .bool B.k, .int .i64 B.n, .int .i64 B.lo, .int .i64 B.hi, .int .i64 B.p] 29)) C.s C.k C.n C.lo C.hi C.p 28), (by repeat (first | exact Below.refl _ _ | (refine Below.drew ?_) | (refine below_drewN ?_ _) | (refine Below.setCell ?_ (by first | omega | (simp; done) | (simp; omega)) _) | (refine Below.alloc ?_ (by first | omega | (simp; done) | (simp; omega)) _) | (refine Below.trans ?_ (Below.mono (by assumption) (by first | omega | (simp; done) | (simp; omega))))))⟩
  clear hW
  obtain ⟨N, hN⟩ : ∃ N, N = w.heap.size := ⟨_, rfl⟩
  rw [← hN] at hS ⊢
  have HN : Hid (N = w.heap.size) := hN
  have HG := hide (And.intro G GP)
  clear hN G GP
  refine fr_region _ (fun _ _ d _ _ h => by cases d <;> exact h) op A B C X Y Z N w cA cB cC ?_ W hS
  clear cA cB cC hS W
  intro v k7 k8 k9 K7 K8 K9 hS
  dsimp only [frAct]
  have H0 : Hid (Br v k7 (up X.s) X.k X.n X.lo X.hi (up X.p) ∧ Br v k8 (up Y.s) Y.k Y.n Y.lo Y.hi (up Y.p) ∧ Br v k9 (up Z.s) Z.k Z.n Z.lo Z.hi (up Z.p) ∧ Below N w v ∧ N ≤ v.heap.size) := ⟨K7, K8, K9, hS.2.2, Nat.le_of_lt hS.1.lt⟩
  have gS := globS_at HN.out HG.out.1 hS.2.2
  have gP := globP_at HN.out HG.out.2 hS.2.2
  clear K7 K8 K9 hS
  have a0 := H0.out.1.c0
  have a1 := H0.out.1.c1
  have a2 := H0.out.1.c2
  have a3 := H0.out.1.c3
  have a4 := H0.out.1.c4
  have a5 := H0.out.1.c5
  have b0 := H0.out.2.1.c0
  have b1 := H0.out.2.1.c1
  have b2 := H0.out.2.1.c2
  have b3 := H0.out.2.1.c3
  have b4 := H0.out.2.1.c4
  have b5 := H0.out.2.1.c5
  go_upto_region 3 with (go_at_call 7; refine (cX _ gS gP).mono ?_; rintro e wK ⟨rfl, hK⟩)
  go_name_world W2 hW
  have H2 : Hid ((Br W2 k7 (up X.s) X.k X.n X.lo X.hi (up X.p) ∧ Br W2 k8 (up Y.s) Y.k Y.n Y.lo Y.hi (up Y.p) ∧ Br W2 k9 (up Z.s) Z.k Z.n Z.lo Z.hi (up Z.p) ∧ Br W2 wK.heap.size (up tx.s) tx.k tx.n tx.lo tx.hi (up tx.p) ∧ Fz W2 wK.heap.size ∧ Below N w W2 ∧ N ≤ W2.heap.size) ∧ (k7 ≠ wK.heap.size ∧ k9 ≠ wK.heap.size ∧ N ≤ wK.heap.size)) := by
    rw [← hW]
    have y9 : Br wK k7 (up X.s) X.k X.n X.lo X.hi (up X.p) ∧ Br wK k8 (up Y.s) Y.k Y.n Y.lo Y.hi (up Y.p) ∧ Br wK k9 (up Z.s) Z.k Z.n Z.lo Z.hi (up Z.p) ∧ Below N w wK ∧ N ≤ wK.heap.size := ⟨H0.out.1.keep hK, H0.out.2.1.keep hK, H0.out.2.2.1.keep hK, H0.out.2.2.2.1.trans (hK.mono H0.out.2.2.2.2), Nat.le_trans H0.out.2.2.2.2 hK.size⟩
    exact ⟨⟨(y9.1).keep ((Below.refl _ _).alloc (Nat.le_refl _) _), (y9.2.1).keep ((Below.refl _ _).alloc (Nat.le_refl _) _), (y9.2.2.1).keep ((Below.refl _ _).alloc (Nat.le_refl _) _), Br.new _ _ _ _ _ _ _ _, Fz.new _ _ _ _ _ _ _ _, y9.2.2.2.1.alloc y9.2.2.2.2 _, by have := y9.2.2.2.2; simp; omega⟩, Nat.ne_of_lt y9.1.lt, Nat.ne_of_lt y9.2.2.1.lt, y9.2.2.2.2⟩
  clear hW hK H0 gS gP cX a0 a1 a2 a3 a4 a5 b0 b1 b2 b3 b4 b5
  generalize wK.heap.size = t10 at *
  have HD : Hid (k7 ≠ t10 ∧ k9 ≠ t10 ∧ N ≤ t10) := H2.out.2
  have HCL : Hid (∀ a b : World, (a.cell? ⟨k7, 0, none⟩ = some (.int .i64 (up X.s)) ∧ a.cell? ⟨k7, 1, none⟩ = some (.bool X.k) ∧ a.cell? ⟨k7, 2, none⟩ = some (.int .i64 X.n) ∧ a.cell? ⟨k7, 3, none⟩ = some (.int .i64 X.lo) ∧ a.cell? ⟨k7, 4, none⟩ = some (.int .i64 X.hi) ∧ a.cell? ⟨k7, 5, none⟩ = some (.int .i64 (up X.p)) ∧ a.cell? ⟨k8, 0, none⟩ = some (.int .i64 (up Y.s)) ∧ a.cell? ⟨k8, 1, none⟩ = some (.bool Y.k) ∧ a.cell? ⟨k8, 2, none⟩ = some (.int .i64 Y.n) ∧ a.cell? ⟨k8, 3, none⟩ = some (.int .i64 Y.lo) ∧ a.cell? ⟨k8, 4, none⟩ = some (.int .i64 Y.hi) ∧ a.cell? ⟨k8, 5, none⟩ = some (.int .i64 (up Y.p)) ∧ a.cell? ⟨k9, 0, none⟩ = some (.int .i64 (up Z.s)) ∧ a.cell? ⟨k9, 1, none⟩ = some (.bool Z.k) ∧ a.cell? ⟨k9, 2, none⟩ = some (.int .i64 Z.n) ∧ a.cell? ⟨k9, 3, none⟩ = some (.int .i64 Z.lo) ∧ a.cell? ⟨k9, 4, none⟩ = some (.int .i64 Z.hi) ∧ a.cell? ⟨k9, 5, none⟩ = some (.int .i64 (up Z.p)) ∧ Hid (Br a k7 (up X.s) X.k X.n X.lo X.hi (up X.p) ∧ Br a k8 (up Y.s) Y.k Y.n Y.lo Y.hi (up Y.p) ∧ Br a k9 (up Z.s) Z.k Z.n Z.lo Z.hi (up Z.p) ∧ Br a t10 (up tx.s) tx.k tx.n tx.lo tx.hi (up tx.p) ∧ Fz a t10 ∧ Below N w a ∧ N ≤ a.heap.size)) → Below a.heap.size a b → (b.cell? ⟨k7, 0, none⟩ = some (.int .i64 (up X.s)) ∧ b.cell? ⟨k7, 1, none⟩ = some (.bool X.k) ∧ b.cell? ⟨k7, 2, none⟩ = some (.int .i64 X.n) ∧ b.cell? ⟨k7, 3, none⟩ = some (.int .i64 X.lo) ∧ b.cell? ⟨k7, 4, none⟩ = some (.int .i64 X.hi) ∧ b.cell? ⟨k7, 5, none⟩ = some (.int .i64 (up X.p)) ∧ b.cell? ⟨k8, 0, none⟩ = some (.int .i64 (up Y.s)) ∧ b.cell? ⟨k8, 1, none⟩ = some (.bool Y.k) ∧ b.cell? ⟨k8, 2, none⟩ = some (.int .i64 Y.n) ∧ b.cell? ⟨k8, 3, none⟩ = some (.int .i64 Y.lo) ∧ b.cell? ⟨k8, 4, none⟩ = some (.int .i64 Y.hi) ∧ b.cell? ⟨k8, 5, none⟩ = some (.int .i64 (up Y.p)) ∧ b.cell? ⟨k9, 0, none⟩ = some (.int .i64 (up Z.s)) ∧ b.cell? ⟨k9, 1, none⟩ = some (.bool Z.k) ∧ b.cell? ⟨k9, 2, none⟩ = some (.int .i64 Z.n) ∧ b.cell? ⟨k9, 3, none⟩ = some (.int .i64 Z.lo) ∧ b.cell? ⟨k9, 4, none⟩ = some (.int .i64 Z.hi) ∧ b.cell? ⟨k9, 5, none⟩ = some (.int .i64 (up Z.p)) ∧ Hid (Br b k7 (up X.s) X.k X.n X.lo X.hi (up X.p) ∧ Br b k8 (up Y.s) Y.k Y.n Y.lo Y.hi (up Y.p) ∧ Br b k9 (up Z.s) Z.k Z.n Z.lo Z.hi (up Z.p) ∧ Br b t10 (up tx.s) tx.k tx.n tx.lo tx.hi (up tx.p) ∧ Fz b t10 ∧ Below N w b ∧ N ≤ b.heap.size))) := fun a b h hb => by
    have y9 := (h.2.2.2.2.2.2.2.2.2.2.2.2.2.2.2.2.2.2).out
    have z9 : Br b k7 (up X.s) X.k X.n X.lo X.hi (up X.p) ∧ Br b k8 (up Y.s) Y.k Y.n Y.lo Y.hi (up Y.p) ∧ Br b k9 (up Z.s) Z.k Z.n Z.lo Z.hi (up Z.p) ∧ Br b t10 (up tx.s) tx.k tx.n tx.lo tx.hi (up tx.p) ∧ Fz b t10 ∧ Below N w b ∧ N ≤ b.heap.size := ⟨y9.1.keep hb, y9.2.1.keep hb, y9.2.2.1.keep hb, y9.2.2.2.1.keep hb, y9.2.2.2.2.1.keep y9.2.2.2.1.lt hb, y9.2.2.2.2.2.1.trans (hb.mono y9.2.2.2.2.2.2), Nat.le_trans y9.2.2.2.2.2.2 hb.size⟩
    exact ⟨z9.1.c0, z9.1.c1, z9.1.c2, z9.1.c3, z9.1.c4, z9.1.c5, z9.2.1.c0, z9.2.1.c1, z9.2.1.c2, z9.2.1.c3, z9.2.1.c4, z9.2.1.c5, z9.2.2.1.c0, z9.2.2.1.c1, z9.2.2.1.c2, z9.2.2.1.c3, z9.2.2.1.c4, z9.2.2.1.c5, z9⟩
  have HPUT : Hid (∀ (a : World) (q : Nat) (t1 t2 t3 t4 t5 t6 : Value), (k7 < q ∧ k8 < q ∧ k9 < q ∧ t10 < q ∧ N ≤ q) → (a.cell? ⟨k7, 0, none⟩ = some (.int .i64 (up X.s)) ∧ a.cell? ⟨k7, 1, none⟩ = some (.bool X.k) ∧ a.cell? ⟨k7, 2, none⟩ = some (.int .i64 X.n) ∧ a.cell? ⟨k7, 3, none⟩ = some (.int .i64 X.lo) ∧ a.cell? ⟨k7, 4, none⟩ = some (.int .i64 X.hi) ∧ a.cell? ⟨k7, 5, none⟩ = some (.int .i64 (up X.p)) ∧ a.cell? ⟨k8, 0, none⟩ = some (.int .i64 (up Y.s)) ∧ a.cell? ⟨k8, 1, none⟩ = some (.bool Y.k) ∧ a.cell? ⟨k8, 2, none⟩ = some (.int .i64 Y.n) ∧ a.cell? ⟨k8, 3, none⟩ = some (.int .i64 Y.lo) ∧ a.cell? ⟨k8, 4, none⟩ = some (.int .i64 Y.hi) ∧ a.cell? ⟨k8, 5, none⟩ = some (.int .i64 (up Y.p)) ∧ a.cell? ⟨k9, 0, none⟩ = some (.int .i64 (up Z.s)) ∧ a.cell? ⟨k9, 1, none⟩ = some (.bool Z.k) ∧ a.cell? ⟨k9, 2, none⟩ = some (.int .i64 Z.n) ∧ a.cell? ⟨k9, 3, none⟩ = some (.int .i64 Z.lo) ∧ a.cell? ⟨k9, 4, none⟩ = some (.int .i64 Z.hi) ∧ a.cell? ⟨k9, 5, none⟩ = some (.int .i64 (up Z.p)) ∧ Hid (Br a k7 (up X.s) X.k X.n X.lo X.hi (up X.p) ∧ Br a k8 (up Y.s) Y.k Y.n Y.lo Y.hi (up Y.p) ∧ Br a k9 (up Z.s) Z.k Z.n Z.lo Z.hi (up Z.p) ∧ Br a t10 (up tx.s) tx.k tx.n tx.lo tx.hi (up tx.p) ∧ Fz a t10 ∧ Below N w a ∧ N ≤ a.heap.size)) → ((st6 a q t1 t2 t3 t4 t5 t6).cell? ⟨k7, 0, none⟩ = some (.int .i64 (up X.s)) ∧ (st6 a q t1 t2 t3 t4 t5 t6).cell? ⟨k7, 1, none⟩ = some (.bool X.k) ∧ (st6 a q t1 t2 t3 t4 t5 t6).cell? ⟨k7, 2, none⟩ = some (.int .i64 X.n) ∧ (st6 a q t1 t2 t3 t4 t5 t6).cell? ⟨k7, 3, none⟩ = some (.int .i64 X.lo) ∧ (st6 a q t1 t2 t3 t4 t5 t6).cell? ⟨k7, 4, none⟩ = some (.int .i64 X.hi) ∧ (st6 a q t1 t2 t3 t4 t5 t6).cell? ⟨k7, 5, none⟩ = some (.int .i64 (up X.p)) ∧ (st6 a q t1 t2 t3 t4 t5 t6).cell? ⟨k8, 0, none⟩ = some (.int .i64 (up Y.s)) ∧ (st6 a q t1 t2 t3 t4 t5 t6).cell? ⟨k8, 1, none⟩ = some (.bool Y.k) ∧ (st6 a q t1 t2 t3 t4 t5 t6).cell? ⟨k8, 2, none⟩ = some (.int .i64 Y.n) ∧ (st6 a q t1 t2 t3 t4 t5 t6).cell? ⟨k8, 3, none⟩ = some (.int .i64 Y.lo) ∧ (st6 a q t1 t2 t3 t4 t5 t6).cell? ⟨k8, 4, none⟩ = some (.int .i64 Y.hi) ∧ (st6 a q t1 t2 t3 t4 t5 t6).cell? ⟨k8, 5, none⟩ = some (.int .i64 (up Y.p)) ∧ (st6 a q t1 t2 t3 t4 t5 t6).cell? ⟨k9, 0, none⟩ = some (.int .i64 (up Z.s)) ∧ (st6 a q t1 t2 t3 t4 t5 t6).cell? ⟨k9, 1, none⟩ = some (.bool Z.k) ∧ (st6 a q t1 t2 t3 t4 t5 t6).cell? ⟨k9, 2, none⟩ = some (.int .i64 Z.n) ∧ (st6 a q t1 t2 t3 t4 t5 t6).cell? ⟨k9, 3, none⟩ = some (.int .i64 Z.lo) ∧ (st6 a q t1 t2 t3 t4 t5 t6).cell? ⟨k9, 4, none⟩ = some (.int .i64 Z.hi) ∧ (st6 a q t1 t2 t3 t4 t5 t6).cell? ⟨k9, 5, none⟩ = some (.int .i64 (up Z.p)) ∧ Hid (Br (st6 a q t1 t2 t3 t4 t5 t6) k7 (up X.s) X.k X.n X.lo X.hi (up X.p) ∧ Br (st6 a q t1 t2 t3 t4 t5 t6) k8 (up Y.s) Y.k Y.n Y.lo Y.hi (up Y.p) ∧ Br (st6 a q t1 t2 t3 t4 t5 t6) k9 (up Z.s) Z.k Z.n Z.lo Z.hi (up Z.p) ∧ Br (st6 a q t1 t2 t3 t4 t5 t6) t10 (up tx.s) tx.k tx.n tx.lo tx.hi (up tx.p) ∧ Fz (st6 a q t1 t2 t3 t4 t5 t6) t10 ∧ Below N w (st6 a q t1 t2 t3 t4 t5 t6) ∧ N ≤ (st6 a q t1 t2 t3 t4 t5 t6).heap.size))) := fun a q t1 t2 t3 t4 t5 t6 hq h => by
    have y9 := (h.2.2.2.2.2.2.2.2.2.2.2.2.2.2.2.2.2.2).out
    have z9 : Br (st6 a q t1 t2 t3 t4 t5 t6) k7 (up X.s) X.k X.n X.lo X.hi (up X.p) ∧ Br (st6 a q t1 t2 t3 t4 t5 t6) k8 (up Y.s) Y.k Y.n Y.lo Y.hi (up Y.p) ∧ Br (st6 a q t1 t2 t3 t4 t5 t6) k9 (up Z.s) Z.k Z.n Z.lo Z.hi (up Z.p) ∧ Br (st6 a q t1 t2 t3 t4 t5 t6) t10 (up tx.s) tx.k tx.n tx.lo tx.hi (up tx.p) ∧ Fz (st6 a q t1 t2 t3 t4 t5 t6) t10 ∧ Below N w (st6 a q t1 t2 t3 t4 t5 t6) ∧ N ≤ (st6 a q t1 t2 t3 t4 t5 t6).heap.size := ⟨y9.1.put (by omega) _ _ _ _ _ _, y9.2.1.put (by omega) _ _ _ _ _ _, y9.2.2.1.put (by omega) _ _ _ _ _ _, y9.2.2.2.1.put (by omega) _ _ _ _ _ _, y9.2.2.2.2.1.put _ _ _ _ _ _, st6_below y9.2.2.2.2.2.1 _ (by omega) _ _ _ _ _ _, by rw [st6_size]; exact y9.2.2.2.2.2.2⟩
    exact ⟨z9.1.c0, z9.1.c1, z9.1.c2, z9.1.c3, z9.1.c4, z9.1.c5, z9.2.1.c0, z9.2.1.c1, z9.2.1.c2, z9.2.1.c3, z9.2.1.c4, z9.2.1.c5, z9.2.2.1.c0, z9.2.2.1.c1, z9.2.2.1.c2, z9.2.2.1.c3, z9.2.2.1.c4, z9.2.2.1.c5, z9⟩
  have hS0 : W2.cell? ⟨k7, 0, none⟩ = some (.int .i64 (up X.s)) ∧ W2.cell? ⟨k7, 1, none⟩ = some (.bool X.k) ∧ W2.cell? ⟨k7, 2, none⟩ = some (.int .i64 X.n) ∧ W2.cell? ⟨k7, 3, none⟩ = some (.int .i64 X.lo) ∧ W2.cell? ⟨k7, 4, none⟩ = some (.int .i64 X.hi) ∧ W2.cell? ⟨k7, 5, none⟩ = some (.int .i64 (up X.p)) ∧ W2.cell? ⟨k8, 0, none⟩ = some (.int .i64 (up Y.s)) ∧ W2.cell? ⟨k8, 1, none⟩ = some (.bool Y.k) ∧ W2.cell? ⟨k8, 2, none⟩ = some (.int .i64 Y.n) ∧ W2.cell? ⟨k8, 3, none⟩ = some (.int .i64 Y.lo) ∧ W2.cell? ⟨k8, 4, none⟩ = some (.int .i64 Y.hi) ∧ W2.cell? ⟨k8, 5, none⟩ = some (.int .i64 (up Y.p)) ∧ W2.cell? ⟨k9, 0, none⟩ = some (.int .i64 (up Z.s)) ∧ W2.cell? ⟨k9, 1, none⟩ = some (.bool Z.k) ∧ W2.cell? ⟨k9, 2, none⟩ = some (.int .i64 Z.n) ∧ W2.cell? ⟨k9, 3, none⟩ = some (.int .i64 Z.lo) ∧ W2.cell? ⟨k9, 4, none⟩ = some (.int .i64 Z.hi) ∧ W2.cell? ⟨k9, 5, none⟩ = some (.int .i64 (up Z.p)) ∧ Hid (Br W2 k7 (up X.s) X.k X.n X.lo X.hi (up X.p) ∧ Br W2 k8 (up Y.s) Y.k Y.n Y.lo Y.hi (up Y.p) ∧ Br W2 k9 (up Z.s) Z.k Z.n Z.lo Z.hi (up Z.p) ∧ Br W2 t10 (up tx.s) tx.k tx.n tx.lo tx.hi (up tx.p) ∧ Fz W2 t10 ∧ Below N w W2 ∧ N ≤ W2.heap.size) := ⟨H2.out.1.1.c0, H2.out.1.1.c1, H2.out.1.1.c2, H2.out.1.1.c3, H2.out.1.1.c4, H2.out.1.1.c5, H2.out.1.2.1.c0, H2.out.1.2.1.c1, H2.out.1.2.1.c2, H2.out.1.2.1.c3, H2.out.1.2.1.c4, H2.out.1.2.1.c5, H2.out.1.2.2.1.c0, H2.out.1.2.2.1.c1, H2.out.1.2.2.1.c2, H2.out.1.2.2.1.c3, H2.out.1.2.2.1.c4, H2.out.1.2.2.1.c5, H2.out.1⟩
  go_cut [12, 13] (fun v1 v2 wy => ∃ q, v1 = .pointer (some ⟨q, 0, none⟩) ∧ v2 = .bool iy ∧ Hid ((Br wy k7 (up X.s) X.k X.n X.lo X.hi (up X.p) ∧ Br wy k8 (up Y.s) Y.k Y.n Y.lo Y.hi (up Y.p) ∧ Br wy k9 (up Z.s) Z.k Z.n Z.lo Z.hi (up Z.p) ∧ Br wy t10 (up tx.s) tx.k tx.n tx.lo tx.hi (up tx.p) ∧ Fz wy t10 ∧ Below N w wy ∧ N ≤ wy.heap.size) ∧ Br wy q (up ty.s) ty.k ty.n ty.lo ty.hi (up ty.p) ∧ Fz wy q ∧ (k7 < q ∧ k8 < q ∧ k9 < q ∧ t10 < q ∧ N ≤ q)))
  case first =>
    refine wp_region_held_drew (S := fun w' => w'.cell? ⟨k7, 0, none⟩ = some (.int .i64 (up X.s)) ∧ w'.cell? ⟨k7, 1, none⟩ = some (.bool X.k) ∧ w'.cell? ⟨k7, 2, none⟩ = some (.int .i64 X.n) ∧ w'.cell? ⟨k7, 3, none⟩ = some (.int .i64 X.lo) ∧ w'.cell? ⟨k7, 4, none⟩ = some (.int .i64 X.hi) ∧ w'.cell? ⟨k7, 5, none⟩ = some (.int .i64 (up X.p)) ∧ w'.cell? ⟨k8, 0, none⟩ = some (.int .i64 (up Y.s)) ∧ w'.cell? ⟨k8, 1, none⟩ = some (.bool Y.k) ∧ w'.cell? ⟨k8, 2, none⟩ = some (.int .i64 Y.n) ∧ w'.cell? ⟨k8, 3, none⟩ = some (.int .i64 Y.lo) ∧ w'.cell? ⟨k8, 4, none⟩ = some (.int .i64 Y.hi) ∧ w'.cell? ⟨k8, 5, none⟩ = some (.int .i64 (up Y.p)) ∧ w'.cell? ⟨k9, 0, none⟩ = some (.int .i64 (up Z.s)) ∧ w'.cell? ⟨k9, 1, none⟩ = some (.bool Z.k) ∧ w'.cell? ⟨k9, 2, none⟩ = some (.int .i64 Z.n) ∧ w'.cell? ⟨k9, 3, none⟩ = some (.int .i64 Z.lo) ∧ w'.cell? ⟨k9, 4, none⟩ = some (.int .i64 Z.hi) ∧ w'.cell? ⟨k9, 5, none⟩ = some (.int .i64 (up Z.p)) ∧ Hid (Br w' k7 (up X.s) X.k X.n X.lo X.hi (up X.p) ∧ Br w' k8 (up Y.s) Y.k Y.n Y.lo Y.hi (up Y.p) ∧ Br w' k9 (up Z.s) Z.k Z.n Z.lo Z.hi (up Z.p) ∧ Br w' t10 (up tx.s) tx.k tx.n tx.lo tx.hi (up tx.p) ∧ Fz w' t10 ∧ Below N w w' ∧ N ≤ w'.heap.size)) (by kernel_rfl) (HCL.out _ _ hS0 ((Below.refl _ _).drew)) (fun hH0 => ?_)
    obtain ⟨w0, hw0⟩ : ∃ w0, w0 = W2.drew := ⟨_, rfl⟩
    rw [← hw0] at hH0 ⊢
    clear hw0
    refine wpAnyH_take (i := 0) (oi := ({ dst := some 36, op := Op.move (Operand.tmp 0), type := 3, pos := "law.go:86", after := #[], guard := none } : Oper)) (v := ?_) rfl (by kernel_rfl) (by kernel_rfl) (by kernel_rfl) (fun _ _ _ h => h) (Or.inl ⟨by rfl, ?_⟩) (by assumption) ?_
    rotate_left
    · (intro wz hSw; (try dsimp only at hSw); go_simp; try with_reducible rfl)
    simp only [Act.put, List.setIfInBounds_toArray, List.set_cons_zero, List.set_cons_succ]
    refine wpAnyH_take (i := 1) (oi := ({ dst := some 37, op := Op.load 33 (Operand.tmp 7), type := 33, pos := "law.go:86", after := #[], guard := none } : Oper)) (v := ?_) rfl (by kernel_rfl) (by kernel_rfl) (by kernel_rfl) (fun _ _ _ h => h) (Or.inl ⟨by rfl, ?_⟩) (by assumption) ?_
    rotate_left
    · (intro wz hSw; (try dsimp only at hSw); go_simp; try with_reducible rfl)
    simp only [Act.put, List.setIfInBounds_toArray, List.set_cons_zero, List.set_cons_succ]
    refine wpAnyH_take (i := 2) (oi := ({ dst := some 38, op := Op.load 33 (Operand.tmp 9), type := 33, pos := "law.go:86", after := #[], guard := none } : Oper)) (v := ?_) rfl (by kernel_rfl) (by kernel_rfl) (by kernel_rfl) (fun _ _ _ h => h) (Or.inl ⟨by rfl, ?_⟩) (by assumption) ?_
    rotate_left
    · (intro wz hSw; (try dsimp only at hSw); go_simp; try with_reducible rfl)
    simp only [Act.put, List.setIfInBounds_toArray, List.set_cons_zero, List.set_cons_succ]
    refine wpAnyH_take (i := 4) (oi := ({ dst := some 40, op := Op.load 33 (Operand.tmp 8), type := 33, pos := "law.go:86", after := #[], guard := none } : Oper)) (v := ?_) rfl (by kernel_rfl) (by kernel_rfl) (by kernel_rfl) (fun _ _ _ h => h) (Or.inl ⟨by rfl, ?_⟩) (by assumption) ?_
    rotate_left
    · (intro wz hSw; (try dsimp only at hSw); go_simp; try with_reducible rfl)
    simp only [Act.put, List.setIfInBounds_toArray, List.set_cons_zero, List.set_cons_succ]
    refine wpAnyH_ready (rs := [3, 9]) (by kernel_rfl) (by simp) ?_
    refine AllReadyH.cons (o := ({ dst := some 39, op := Op.call { callee := Callee.value (Operand.func 14), args := #[Operand.tmp 37, Operand.tmp 38], argTypes := #[33, 33] }, type := 33, pos := "law.go:86", after := #[{ on := 1, ground := Ground.data }, { on := 2, ground := Ground.data }], guard := none } : Oper)) rfl (fun K hK => ?_) (AllReadyH.cons (o := ({ dst := some 12, op := Op.alloc 33, type := 0, pos := "law.go:86", after := #[], guard := none } : Oper)) rfl (fun K hK => ?_) AllReadyH.nil)
    · go_simp
      go_at_call 14
      refine (cJ _).mono ?_
      rintro e w1 ⟨rfl, hb1⟩
      refine hK.out _ _ (HCL.out _ _ hH0 hb1) (fun hH1 => ?_)
      clear hK K
      refine wpAnyH_ready (rs := [5, 9]) (by kernel_rfl) (by simp) ?_
      refine AllReadyH.cons (o := ({ dst := some 41, op := Op.call { callee := Callee.value (Operand.func 7), args := #[Operand.tmp 36, Operand.tmp 39, Operand.tmp 40], argTypes := #[3, 33, 33] }, type := 37, pos := "law.go:86", after := #[{ on := 0, ground := Ground.data }, { on := 3, ground := Ground.data }, { on := 4, ground := Ground.data }, { on := 3, ground := Ground.chain }], guard := none } : Oper)) rfl (fun K hK => ?_) (AllReadyH.cons (o := ({ dst := some 12, op := Op.alloc 33, type := 0, pos := "law.go:86", after := #[], guard := none } : Oper)) rfl (fun K hK => ?_) AllReadyH.nil)
      · go_simp
        go_at_call 7
        refine (cY _ (globS_at HN.out HG.out.1 (hH1.2.2.2.2.2.2.2.2.2.2.2.2.2.2.2.2.2.2).out.2.2.2.2.2.1) (globP_at HN.out HG.out.2 (hH1.2.2.2.2.2.2.2.2.2.2.2.2.2.2.2.2.2.2).out.2.2.2.2.2.1)).mono ?_
        rintro e w2 ⟨rfl, hb2⟩
        refine hK.out _ _ (HCL.out _ _ hH1 hb2) (fun hH2 => ?_)
        clear hK K
        refine wpAnyH_take (i := 6) (oi := ({ dst := some 35, op := Op.move (Operand.tmp 41), type := 37, pos := "law.go:86", after := #[{ on := 5, ground := Ground.data }], guard := none } : Oper)) (v := ?_) rfl (by kernel_rfl) (by kernel_rfl) (by kernel_rfl) (fun _ _ _ h => h) (Or.inl ⟨by rfl, ?_⟩) (by assumption) ?_
        rotate_left
        · (intro wz hSw; (try dsimp only at hSw); go_simp; try with_reducible rfl)
        simp only [Act.put, List.setIfInBounds_toArray, List.set_cons_zero, List.set_cons_succ]
        refine wpAnyH_take (i := 7) (oi := ({ dst := some 42, op := Op.extract (Operand.tmp 35) 0, type := 33, pos := "law.go:86", after := #[{ on := 6, ground := Ground.data }], guard := none } : Oper)) (v := ?_) rfl (by kernel_rfl) (by kernel_rfl) (by kernel_rfl) (fun _ _ _ h => h) (Or.inl ⟨by rfl, ?_⟩) (by assumption) ?_
        rotate_left
        · (intro wz hSw; (try dsimp only at hSw); go_simp; try with_reducible rfl)
        simp only [Act.put, List.setIfInBounds_toArray, List.set_cons_zero, List.set_cons_succ]
        refine wpAnyH_take (i := 8) (oi := ({ dst := some 43, op := Op.extract (Operand.tmp 35) 1, type := 4, pos := "law.go:86", after := #[{ on := 6, ground := Ground.data }, { on := 10, ground := Ground.gcOnly Departure.lateStores }], guard := none } : Oper)) (v := ?_) rfl (by kernel_rfl) (by kernel_rfl) (by kernel_rfl) (fun _ _ _ h => h) (Or.inl ⟨by rfl, ?_⟩) (by assumption) ?_
        rotate_left
        · (intro wz hSw; (try dsimp only at hSw); go_simp; try with_reducible rfl)
        simp only [Act.put, List.setIfInBounds_toArray, List.set_cons_zero, List.set_cons_succ]
        refine wpAnyH_ready (rs := [9]) (by kernel_rfl) (by simp) ?_
        refine AllReadyH.cons (o := ({ dst := some 12, op := Op.alloc 33, type := 0, pos := "law.go:86", after := #[], guard := none } : Oper)) rfl (fun K hK => ?_) AllReadyH.nil
        · go_simp
          have hb3 : Below w2.heap.size w2 (w2.alloc (.cells #[.int .i64 0, .bool false, .int .i64 0, .int .i64 0, .int .i64 0, .int .i64 0] 33)) := (Below.refl _ _).alloc (Nat.le_refl _) _
          have M3 := Br.new w2 0 false 0 0 0 0 33
          have G3 := Fz.new w2 0 false 0 0 0 0 33
          have neM : k7 < w2.heap.size ∧ k8 < w2.heap.size ∧ k9 < w2.heap.size ∧ t10 < w2.heap.size ∧ N ≤ w2.heap.size := ⟨((hH2.2.2.2.2.2.2.2.2.2.2.2.2.2.2.2.2.2.2).out.1).lt, ((hH2.2.2.2.2.2.2.2.2.2.2.2.2.2.2.2.2.2.2).out.2.1).lt, ((hH2.2.2.2.2.2.2.2.2.2.2.2.2.2.2.2.2.2.2).out.2.2.1).lt, ((hH2.2.2.2.2.2.2.2.2.2.2.2.2.2.2.2.2.2.2).out.2.2.2.1).lt, (hH2.2.2.2.2.2.2.2.2.2.2.2.2.2.2.2.2.2.2).out.2.2.2.2.2.2⟩
          refine hK.out _ _ (HCL.out _ _ hH2 hb3) (fun hH3 => ?_)
          clear hK K
          obtain ⟨w3, hw3⟩ : ∃ w3, w3 = (w2.alloc (.cells #[.int .i64 0, .bool false, .int .i64 0, .int .i64 0, .int .i64 0, .int .i64 0] 33)) := ⟨_, rfl⟩
          rw [← hw3] at hH3 M3 G3 ⊢
          clear hw3 hb3
          generalize w2.heap.size = kM at *
          refine wpAnyH_ready (rs := [10]) (by kernel_rfl) (by simp) ?_
          refine AllReadyH.cons (o := ({ dst := none, op := Op.store 33 (Operand.tmp 12) (Operand.tmp 42), type := 0, pos := "law.go:86", after := #[{ on := 9, ground := Ground.data }, { on := 7, ground := Ground.data }, { on := 5, ground := Ground.chain }, { on := 0, ground := Ground.phase }, { on := 1, ground := Ground.phase }, { on := 2, ground := Ground.phase }, { on := 3, ground := Ground.phase }, { on := 4, ground := Ground.phase }, { on := 5, ground := Ground.phase }, { on := 6, ground := Ground.phase }, { on := 7, ground := Ground.phase }, { on := 8, ground := Ground.textOnly Departure.lateStores }, { on := 9, ground := Ground.phase }], guard := none } : Oper)) rfl (fun K hK => ?_) AllReadyH.nil
          · have c0 := M3.c0
            have c1 := M3.c1
            have c2 := M3.c2
            have c3 := M3.c3
            have c4 := M3.c4
            have c5 := M3.c5
            have f0 := G3.f0
            have f1 := G3.f1
            have f2 := G3.f2
            have f3 := G3.f3
            have f4 := G3.f4
            have f5 := G3.f5
            go_simp
            have M4 := M3.wrote (up ty.s) ty.k ty.n ty.lo ty.hi (up ty.p)
            have G4 := G3.put (q := kM) (.int .i64 (up ty.s)) (.bool ty.k) (.int .i64 ty.n) (.int .i64 ty.lo) (.int .i64 ty.hi) (.int .i64 (up ty.p))
            refine hK.out _ _ (HPUT.out _ kM _ _ _ _ _ _ neM hH3) (fun hH4 => ?_)
            clear hK K c0 c1 c2 c3 c4 c5 f0 f1 f2 f3 f4 f5
            refine wpAnyH_take (i := 11) (oi := ({ dst := some 13, op := Op.assign (Operand.tmp 43), type := 4, pos := "law.go:86", after := #[{ on := 8, ground := Ground.data }, { on := 10, ground := Ground.chain }, { on := 0, ground := Ground.phase }, { on := 1, ground := Ground.phase }, { on := 2, ground := Ground.phase }, { on := 3, ground := Ground.phase }, { on := 4, ground := Ground.phase }, { on := 5, ground := Ground.phase }, { on := 6, ground := Ground.phase }, { on := 7, ground := Ground.phase }, { on := 8, ground := Ground.phase }, { on := 9, ground := Ground.phase }, { on := 10, ground := Ground.phase }], guard := none } : Oper)) (v := ?_) rfl (by kernel_rfl) (by kernel_rfl) (by kernel_rfl) (fun _ _ _ h => h) (Or.inl ⟨by rfl, ?_⟩) (by assumption) ?_
            rotate_left
            · (intro wz hSw; (try dsimp only at hSw); go_simp; try with_reducible rfl)
            simp only [Act.put, List.setIfInBounds_toArray, List.set_cons_zero, List.set_cons_succ]
            refine wpAnyH_done (by kernel_rfl) ?_ _
            go_wp2
            go_meet
            case rel => exact ⟨_, rfl, rfl, (hH4.2.2.2.2.2.2.2.2.2.2.2.2.2.2.2.2.2.2).out, M4, G4, neM⟩
      · go_simp
        have hb2 : Below w1.heap.size w1 (w1.alloc (.cells #[.int .i64 0, .bool false, .int .i64 0, .int .i64 0, .int .i64 0, .int .i64 0] 33)) := (Below.refl _ _).alloc (Nat.le_refl _) _
        have M2 := Br.new w1 0 false 0 0 0 0 33
        have G2 := Fz.new w1 0 false 0 0 0 0 33
        have neM : k7 < w1.heap.size ∧ k8 < w1.heap.size ∧ k9 < w1.heap.size ∧ t10 < w1.heap.size ∧ N ≤ w1.heap.size := ⟨((hH1.2.2.2.2.2.2.2.2.2.2.2.2.2.2.2.2.2.2).out.1).lt, ((hH1.2.2.2.2.2.2.2.2.2.2.2.2.2.2.2.2.2.2).out.2.1).lt, ((hH1.2.2.2.2.2.2.2.2.2.2.2.2.2.2.2.2.2.2).out.2.2.1).lt, ((hH1.2.2.2.2.2.2.2.2.2.2.2.2.2.2.2.2.2.2).out.2.2.2.1).lt, (hH1.2.2.2.2.2.2.2.2.2.2.2.2.2.2.2.2.2.2).out.2.2.2.2.2.2⟩
        refine hK.out _ _ (HCL.out _ _ hH1 hb2) (fun hH2 => ?_)
        clear hK K
        obtain ⟨w2, hw2⟩ : ∃ w2, w2 = (w1.alloc (.cells #[.int .i64 0, .bool false, .int .i64 0, .int .i64 0, .int .i64 0, .int .i64 0] 33)) := ⟨_, rfl⟩
        rw [← hw2] at hH2 M2 G2 ⊢
        clear hw2 hb2
        generalize w1.heap.size = kM at *
        refine wpAnyH_ready (rs := [5]) (by kernel_rfl) (by simp) ?_
        refine AllReadyH.cons (o := ({ dst := some 41, op := Op.call { callee := Callee.value (Operand.func 7), args := #[Operand.tmp 36, Operand.tmp 39, Operand.tmp 40], argTypes := #[3, 33, 33] }, type := 37, pos := "law.go:86", after := #[{ on := 0, ground := Ground.data }, { on := 3, ground := Ground.data }, { on := 4, ground := Ground.data }, { on := 3, ground := Ground.chain }], guard := none } : Oper)) rfl (fun K hK => ?_) AllReadyH.nil
        · go_simp
          go_at_call 7
          refine (cY _ (globS_at HN.out HG.out.1 (hH2.2.2.2.2.2.2.2.2.2.2.2.2.2.2.2.2.2.2).out.2.2.2.2.2.1) (globP_at HN.out HG.out.2 (hH2.2.2.2.2.2.2.2.2.2.2.2.2.2.2.2.2.2.2).out.2.2.2.2.2.1)).mono ?_
          rintro e w3 ⟨rfl, hb3⟩
          have M3 := M2.keep hb3
          have G3 := G2.keep M2.lt hb3
          refine hK.out _ _ (HCL.out _ _ hH2 hb3) (fun hH3 => ?_)
          clear hK K
          refine wpAnyH_take (i := 6) (oi := ({ dst := some 35, op := Op.move (Operand.tmp 41), type := 37, pos := "law.go:86", after := #[{ on := 5, ground := Ground.data }], guard := none } : Oper)) (v := ?_) rfl (by kernel_rfl) (by kernel_rfl) (by kernel_rfl) (fun _ _ _ h => h) (Or.inl ⟨by rfl, ?_⟩) (by assumption) ?_
          rotate_left
          · (intro wz hSw; (try dsimp only at hSw); go_simp; try with_reducible rfl)
          simp only [Act.put, List.setIfInBounds_toArray, List.set_cons_zero, List.set_cons_succ]
          refine wpAnyH_take (i := 7) (oi := ({ dst := some 42, op := Op.extract (Operand.tmp 35) 0, type := 33, pos := "law.go:86", after := #[{ on := 6, ground := Ground.data }], guard := none } : Oper)) (v := ?_) rfl (by kernel_rfl) (by kernel_rfl) (by kernel_rfl) (fun _ _ _ h => h) (Or.inl ⟨by rfl, ?_⟩) (by assumption) ?_
          rotate_left
          · (intro wz hSw; (try dsimp only at hSw); go_simp; try with_reducible rfl)
          simp only [Act.put, List.setIfInBounds_toArray, List.set_cons_zero, List.set_cons_succ]
          refine wpAnyH_take (i := 8) (oi := ({ dst := some 43, op := Op.extract (Operand.tmp 35) 1, type := 4, pos := "law.go:86", after := #[{ on := 6, ground := Ground.data }, { on := 10, ground := Ground.gcOnly Departure.lateStores }], guard := none } : Oper)) (v := ?_) rfl (by kernel_rfl) (by kernel_rfl) (by kernel_rfl) (fun _ _ _ h => h) (Or.inl ⟨by rfl, ?_⟩) (by assumption) ?_
          rotate_left
          · (intro wz hSw; (try dsimp only at hSw); go_simp; try with_reducible rfl)
          simp only [Act.put, List.setIfInBounds_toArray, List.set_cons_zero, List.set_cons_succ]
          refine wpAnyH_ready (rs := [10]) (by kernel_rfl) (by simp) ?_
          refine AllReadyH.cons (o := ({ dst := none, op := Op.store 33 (Operand.tmp 12) (Operand.tmp 42), type := 0, pos := "law.go:86", after := #[{ on := 9, ground := Ground.data }, { on := 7, ground := Ground.data }, { on := 5, ground := Ground.chain }, { on := 0, ground := Ground.phase }, { on := 1, ground := Ground.phase }, { on := 2, ground := Ground.phase }, { on := 3, ground := Ground.phase }, { on := 4, ground := Ground.phase }, { on := 5, ground := Ground.phase }, { on := 6, ground := Ground.phase }, { on := 7, ground := Ground.phase }, { on := 8, ground := Ground.textOnly Departure.lateStores }, { on := 9, ground := Ground.phase }], guard := none } : Oper)) rfl (fun K hK => ?_) AllReadyH.nil
          · have c0 := M3.c0
            have c1 := M3.c1
            have c2 := M3.c2
            have c3 := M3.c3
            have c4 := M3.c4
            have c5 := M3.c5
            have f0 := G3.f0
            have f1 := G3.f1
            have f2 := G3.f2
            have f3 := G3.f3
            have f4 := G3.f4
            have f5 := G3.f5
            go_simp
            have M4 := M3.wrote (up ty.s) ty.k ty.n ty.lo ty.hi (up ty.p)
            have G4 := G3.put (q := kM) (.int .i64 (up ty.s)) (.bool ty.k) (.int .i64 ty.n) (.int .i64 ty.lo) (.int .i64 ty.hi) (.int .i64 (up ty.p))
            refine hK.out _ _ (HPUT.out _ kM _ _ _ _ _ _ neM hH3) (fun hH4 => ?_)
            clear hK K c0 c1 c2 c3 c4 c5 f0 f1 f2 f3 f4 f5
            refine wpAnyH_take (i := 11) (oi := ({ dst := some 13, op := Op.assign (Operand.tmp 43), type := 4, pos := "law.go:86", after := #[{ on := 8, ground := Ground.data }, { on := 10, ground := Ground.chain }, { on := 0, ground := Ground.phase }, { on := 1, ground := Ground.phase }, { on := 2, ground := Ground.phase }, { on := 3, ground := Ground.phase }, { on := 4, ground := Ground.phase }, { on := 5, ground := Ground.phase }, { on := 6, ground := Ground.phase }, { on := 7, ground := Ground.phase }, { on := 8, ground := Ground.phase }, { on := 9, ground := Ground.phase }, { on := 10, ground := Ground.phase }], guard := none } : Oper)) (v := ?_) rfl (by kernel_rfl) (by kernel_rfl) (by kernel_rfl) (fun _ _ _ h => h) (Or.inl ⟨by rfl, ?_⟩) (by assumption) ?_
            rotate_left
            · (intro wz hSw; (try dsimp only at hSw); go_simp; try with_reducible rfl)
            simp only [Act.put, List.setIfInBounds_toArray, List.set_cons_zero, List.set_cons_succ]
            refine wpAnyH_done (by kernel_rfl) ?_ _
            go_wp2
            go_meet
            case rel => exact ⟨_, rfl, rfl, (hH4.2.2.2.2.2.2.2.2.2.2.2.2.2.2.2.2.2.2).out, M4, G4, neM⟩
    · go_simp
      have hb1 : Below w0.heap.size w0 (w0.alloc (.cells #[.int .i64 0, .bool false, .int .i64 0, .int .i64 0, .int .i64 0, .int .i64 0] 33)) := (Below.refl _ _).alloc (Nat.le_refl _) _
      have M1 := Br.new w0 0 false 0 0 0 0 33
      have G1 := Fz.new w0 0 false 0 0 0 0 33
      have neM : k7 < w0.heap.size ∧ k8 < w0.heap.size ∧ k9 < w0.heap.size ∧ t10 < w0.heap.size ∧ N ≤ w0.heap.size := ⟨((hH0.2.2.2.2.2.2.2.2.2.2.2.2.2.2.2.2.2.2).out.1).lt, ((hH0.2.2.2.2.2.2.2.2.2.2.2.2.2.2.2.2.2.2).out.2.1).lt, ((hH0.2.2.2.2.2.2.2.2.2.2.2.2.2.2.2.2.2.2).out.2.2.1).lt, ((hH0.2.2.2.2.2.2.2.2.2.2.2.2.2.2.2.2.2.2).out.2.2.2.1).lt, (hH0.2.2.2.2.2.2.2.2.2.2.2.2.2.2.2.2.2.2).out.2.2.2.2.2.2⟩
      refine hK.out _ _ (HCL.out _ _ hH0 hb1) (fun hH1 => ?_)
      clear hK K
      obtain ⟨w1, hw1⟩ : ∃ w1, w1 = (w0.alloc (.cells #[.int .i64 0, .bool false, .int .i64 0, .int .i64 0, .int .i64 0, .int .i64 0] 33)) := ⟨_, rfl⟩
      rw [← hw1] at hH1 M1 G1 ⊢
      clear hw1 hb1
      generalize w0.heap.size = kM at *
      refine wpAnyH_ready (rs := [3]) (by kernel_rfl) (by simp) ?_
      refine AllReadyH.cons (o := ({ dst := some 39, op := Op.call { callee := Callee.value (Operand.func 14), args := #[Operand.tmp 37, Operand.tmp 38], argTypes := #[33, 33] }, type := 33, pos := "law.go:86", after := #[{ on := 1, ground := Ground.data }, { on := 2, ground := Ground.data }], guard := none } : Oper)) rfl (fun K hK => ?_) AllReadyH.nil
      · go_simp
        go_at_call 14
        refine (cJ _).mono ?_
        rintro e w2 ⟨rfl, hb2⟩
        have M2 := M1.keep hb2
        have G2 := G1.keep M1.lt hb2
        refine hK.out _ _ (HCL.out _ _ hH1 hb2) (fun hH2 => ?_)
        clear hK K
        refine wpAnyH_ready (rs := [5]) (by kernel_rfl) (by simp) ?_
        refine AllReadyH.cons (o := ({ dst := some 41, op := Op.call { callee := Callee.value (Operand.func 7), args := #[Operand.tmp 36, Operand.tmp 39, Operand.tmp 40], argTypes := #[3, 33, 33] }, type := 37, pos := "law.go:86", after := #[{ on := 0, ground := Ground.data }, { on := 3, ground := Ground.data }, { on := 4, ground := Ground.data }, { on := 3, ground := Ground.chain }], guard := none } : Oper)) rfl (fun K hK => ?_) AllReadyH.nil
        · go_simp
          go_at_call 7
          refine (cY _ (globS_at HN.out HG.out.1 (hH2.2.2.2.2.2.2.2.2.2.2.2.2.2.2.2.2.2.2).out.2.2.2.2.2.1) (globP_at HN.out HG.out.2 (hH2.2.2.2.2.2.2.2.2.2.2.2.2.2.2.2.2.2.2).out.2.2.2.2.2.1)).mono ?_
          rintro e w3 ⟨rfl, hb3⟩
          have M3 := M2.keep hb3
          have G3 := G2.keep M2.lt hb3
          refine hK.out _ _ (HCL.out _ _ hH2 hb3) (fun hH3 => ?_)
          clear hK K
          refine wpAnyH_take (i := 6) (oi := ({ dst := some 35, op := Op.move (Operand.tmp 41), type := 37, pos := "law.go:86", after := #[{ on := 5, ground := Ground.data }], guard := none } : Oper)) (v := ?_) rfl (by kernel_rfl) (by kernel_rfl) (by kernel_rfl) (fun _ _ _ h => h) (Or.inl ⟨by rfl, ?_⟩) (by assumption) ?_
          rotate_left
          · (intro wz hSw; (try dsimp only at hSw); go_simp; try with_reducible rfl)
          simp only [Act.put, List.setIfInBounds_toArray, List.set_cons_zero, List.set_cons_succ]
          refine wpAnyH_take (i := 7) (oi := ({ dst := some 42, op := Op.extract (Operand.tmp 35) 0, type := 33, pos := "law.go:86", after := #[{ on := 6, ground := Ground.data }], guard := none } : Oper)) (v := ?_) rfl (by kernel_rfl) (by kernel_rfl) (by kernel_rfl) (fun _ _ _ h => h) (Or.inl ⟨by rfl, ?_⟩) (by assumption) ?_
          rotate_left
          · (intro wz hSw; (try dsimp only at hSw); go_simp; try with_reducible rfl)
          simp only [Act.put, List.setIfInBounds_toArray, List.set_cons_zero, List.set_cons_succ]
          refine wpAnyH_take (i := 8) (oi := ({ dst := some 43, op := Op.extract (Operand.tmp 35) 1, type := 4, pos := "law.go:86", after := #[{ on := 6, ground := Ground.data }, { on := 10, ground := Ground.gcOnly Departure.lateStores }], guard := none } : Oper)) (v := ?_) rfl (by kernel_rfl) (by kernel_rfl) (by kernel_rfl) (fun _ _ _ h => h) (Or.inl ⟨by rfl, ?_⟩) (by assumption) ?_
          rotate_left
          · (intro wz hSw; (try dsimp only at hSw); go_simp; try with_reducible rfl)
          simp only [Act.put, List.setIfInBounds_toArray, List.set_cons_zero, List.set_cons_succ]
          refine wpAnyH_ready (rs := [10]) (by kernel_rfl) (by simp) ?_
          refine AllReadyH.cons (o := ({ dst := none, op := Op.store 33 (Operand.tmp 12) (Operand.tmp 42), type := 0, pos := "law.go:86", after := #[{ on := 9, ground := Ground.data }, { on := 7, ground := Ground.data }, { on := 5, ground := Ground.chain }, { on := 0, ground := Ground.phase }, { on := 1, ground := Ground.phase }, { on := 2, ground := Ground.phase }, { on := 3, ground := Ground.phase }, { on := 4, ground := Ground.phase }, { on := 5, ground := Ground.phase }, { on := 6, ground := Ground.phase }, { on := 7, ground := Ground.phase }, { on := 8, ground := Ground.textOnly Departure.lateStores }, { on := 9, ground := Ground.phase }], guard := none } : Oper)) rfl (fun K hK => ?_) AllReadyH.nil
          · have c0 := M3.c0
            have c1 := M3.c1
            have c2 := M3.c2
            have c3 := M3.c3
            have c4 := M3.c4
            have c5 := M3.c5
            have f0 := G3.f0
            have f1 := G3.f1
            have f2 := G3.f2
            have f3 := G3.f3
            have f4 := G3.f4
            have f5 := G3.f5
            go_simp
            have M4 := M3.wrote (up ty.s) ty.k ty.n ty.lo ty.hi (up ty.p)
            have G4 := G3.put (q := kM) (.int .i64 (up ty.s)) (.bool ty.k) (.int .i64 ty.n) (.int .i64 ty.lo) (.int .i64 ty.hi) (.int .i64 (up ty.p))
            refine hK.out _ _ (HPUT.out _ kM _ _ _ _ _ _ neM hH3) (fun hH4 => ?_)
            clear hK K c0 c1 c2 c3 c4 c5 f0 f1 f2 f3 f4 f5
            refine wpAnyH_take (i := 11) (oi := ({ dst := some 13, op := Op.assign (Operand.tmp 43), type := 4, pos := "law.go:86", after := #[{ on := 8, ground := Ground.data }, { on := 10, ground := Ground.chain }, { on := 0, ground := Ground.phase }, { on := 1, ground := Ground.phase }, { on := 2, ground := Ground.phase }, { on := 3, ground := Ground.phase }, { on := 4, ground := Ground.phase }, { on := 5, ground := Ground.phase }, { on := 6, ground := Ground.phase }, { on := 7, ground := Ground.phase }, { on := 8, ground := Ground.phase }, { on := 9, ground := Ground.phase }, { on := 10, ground := Ground.phase }], guard := none } : Oper)) (v := ?_) rfl (by kernel_rfl) (by kernel_rfl) (by kernel_rfl) (fun _ _ _ h => h) (Or.inl ⟨by rfl, ?_⟩) (by assumption) ?_
            rotate_left
            · (intro wz hSw; (try dsimp only at hSw); go_simp; try with_reducible rfl)
            simp only [Act.put, List.setIfInBounds_toArray, List.set_cons_zero, List.set_cons_succ]
            refine wpAnyH_done (by kernel_rfl) ?_ _
            go_wp2
            go_meet
            case rel => exact ⟨_, rfl, rfl, (hH4.2.2.2.2.2.2.2.2.2.2.2.2.2.2.2.2.2.2).out, M4, G4, neM⟩
  case rest =>
    obtain ⟨q, rfl, rfl, H3⟩ := hcut
    clear hS0 HCL HPUT
    obtain ⟨t12, ht12⟩ : ∃ t, t = q := ⟨_, rfl⟩
    rw [← ht12] at H3 ⊢
    clear ht12 q H2 cY
    have HE : Hid (k7 < t12 ∧ k9 < t12 ∧ t10 < t12 ∧ N ≤ t12) := ⟨H3.out.2.2.2.1, H3.out.2.2.2.2.2.1, H3.out.2.2.2.2.2.2.1, H3.out.2.2.2.2.2.2.2⟩
    have H3b : Hid (Br wc k7 (up X.s) X.k X.n X.lo X.hi (up X.p) ∧ Br wc k8 (up Y.s) Y.k Y.n Y.lo Y.hi (up Y.p) ∧ Br wc k9 (up Z.s) Z.k Z.n Z.lo Z.hi (up Z.p) ∧ Br wc t10 (up tx.s) tx.k tx.n tx.lo tx.hi (up tx.p) ∧ Fz wc t10 ∧ Br wc t12 (up ty.s) ty.k ty.n ty.lo ty.hi (up ty.p) ∧ Fz wc t12 ∧ Below N w wc ∧ N ≤ wc.heap.size) := ⟨H3.out.1.1, H3.out.1.2.1, H3.out.1.2.2.1, H3.out.1.2.2.2.1, H3.out.1.2.2.2.2.1, H3.out.2.1, H3.out.2.2.1, H3.out.1.2.2.2.2.2.1, H3.out.1.2.2.2.2.2.2⟩
    clear H3
    go_upto_region 4 with fail
    have HCL : Hid (∀ a b : World, (a.cell? ⟨k7, 0, none⟩ = some (.int .i64 (up X.s)) ∧ a.cell? ⟨k7, 1, none⟩ = some (.bool X.k) ∧ a.cell? ⟨k7, 2, none⟩ = some (.int .i64 X.n) ∧ a.cell? ⟨k7, 3, none⟩ = some (.int .i64 X.lo) ∧ a.cell? ⟨k7, 4, none⟩ = some (.int .i64 X.hi) ∧ a.cell? ⟨k7, 5, none⟩ = some (.int .i64 (up X.p)) ∧ a.cell? ⟨k8, 0, none⟩ = some (.int .i64 (up Y.s)) ∧ a.cell? ⟨k8, 1, none⟩ = some (.bool Y.k) ∧ a.cell? ⟨k8, 2, none⟩ = some (.int .i64 Y.n) ∧ a.cell? ⟨k8, 3, none⟩ = some (.int .i64 Y.lo) ∧ a.cell? ⟨k8, 4, none⟩ = some (.int .i64 Y.hi) ∧ a.cell? ⟨k8, 5, none⟩ = some (.int .i64 (up Y.p)) ∧ a.cell? ⟨k9, 0, none⟩ = some (.int .i64 (up Z.s)) ∧ a.cell? ⟨k9, 1, none⟩ = some (.bool Z.k) ∧ a.cell? ⟨k9, 2, none⟩ = some (.int .i64 Z.n) ∧ a.cell? ⟨k9, 3, none⟩ = some (.int .i64 Z.lo) ∧ a.cell? ⟨k9, 4, none⟩ = some (.int .i64 Z.hi) ∧ a.cell? ⟨k9, 5, none⟩ = some (.int .i64 (up Z.p)) ∧ Hid (Br a k7 (up X.s) X.k X.n X.lo X.hi (up X.p) ∧ Br a k8 (up Y.s) Y.k Y.n Y.lo Y.hi (up Y.p) ∧ Br a k9 (up Z.s) Z.k Z.n Z.lo Z.hi (up Z.p) ∧ Br a t10 (up tx.s) tx.k tx.n tx.lo tx.hi (up tx.p) ∧ Fz a t10 ∧ Br a t12 (up ty.s) ty.k ty.n ty.lo ty.hi (up ty.p) ∧ Fz a t12 ∧ Below N w a ∧ N ≤ a.heap.size)) → Below a.heap.size a b → (b.cell? ⟨k7, 0, none⟩ = some (.int .i64 (up X.s)) ∧ b.cell? ⟨k7, 1, none⟩ = some (.bool X.k) ∧ b.cell? ⟨k7, 2, none⟩ = some (.int .i64 X.n) ∧ b.cell? ⟨k7, 3, none⟩ = some (.int .i64 X.lo) ∧ b.cell? ⟨k7, 4, none⟩ = some (.int .i64 X.hi) ∧ b.cell? ⟨k7, 5, none⟩ = some (.int .i64 (up X.p)) ∧ b.cell? ⟨k8, 0, none⟩ = some (.int .i64 (up Y.s)) ∧ b.cell? ⟨k8, 1, none⟩ = some (.bool Y.k) ∧ b.cell? ⟨k8, 2, none⟩ = some (.int .i64 Y.n) ∧ b.cell? ⟨k8, 3, none⟩ = some (.int .i64 Y.lo) ∧ b.cell? ⟨k8, 4, none⟩ = some (.int .i64 Y.hi) ∧ b.cell? ⟨k8, 5, none⟩ = some (.int .i64 (up Y.p)) ∧ b.cell? ⟨k9, 0, none⟩ = some (.int .i64 (up Z.s)) ∧ b.cell? ⟨k9, 1, none⟩ = some (.bool Z.k) ∧ b.cell? ⟨k9, 2, none⟩ = some (.int .i64 Z.n) ∧ b.cell? ⟨k9, 3, none⟩ = some (.int .i64 Z.lo) ∧ b.cell? ⟨k9, 4, none⟩ = some (.int .i64 Z.hi) ∧ b.cell? ⟨k9, 5, none⟩ = some (.int .i64 (up Z.p)) ∧ Hid (Br b k7 (up X.s) X.k X.n X.lo X.hi (up X.p) ∧ Br b k8 (up Y.s) Y.k Y.n Y.lo Y.hi (up Y.p) ∧ Br b k9 (up Z.s) Z.k Z.n Z.lo Z.hi (up Z.p) ∧ Br b t10 (up tx.s) tx.k tx.n tx.lo tx.hi (up tx.p) ∧ Fz b t10 ∧ Br b t12 (up ty.s) ty.k ty.n ty.lo ty.hi (up ty.p) ∧ Fz b t12 ∧ Below N w b ∧ N ≤ b.heap.size))) := fun a b h hb => by
      have y9 := (h.2.2.2.2.2.2.2.2.2.2.2.2.2.2.2.2.2.2).out
      have z9 : Br b k7 (up X.s) X.k X.n X.lo X.hi (up X.p) ∧ Br b k8 (up Y.s) Y.k Y.n Y.lo Y.hi (up Y.p) ∧ Br b k9 (up Z.s) Z.k Z.n Z.lo Z.hi (up Z.p) ∧ Br b t10 (up tx.s) tx.k tx.n tx.lo tx.hi (up tx.p) ∧ Fz b t10 ∧ Br b t12 (up ty.s) ty.k ty.n ty.lo ty.hi (up ty.p) ∧ Fz b t12 ∧ Below N w b ∧ N ≤ b.heap.size := ⟨y9.1.keep hb, y9.2.1.keep hb, y9.2.2.1.keep hb, y9.2.2.2.1.keep hb, y9.2.2.2.2.1.keep y9.2.2.2.1.lt hb, y9.2.2.2.2.2.1.keep hb, y9.2.2.2.2.2.2.1.keep y9.2.2.2.2.2.1.lt hb, y9.2.2.2.2.2.2.2.1.trans (hb.mono y9.2.2.2.2.2.2.2.2), Nat.le_trans y9.2.2.2.2.2.2.2.2 hb.size⟩
      exact ⟨z9.1.c0, z9.1.c1, z9.1.c2, z9.1.c3, z9.1.c4, z9.1.c5, z9.2.1.c0, z9.2.1.c1, z9.2.1.c2, z9.2.1.c3, z9.2.1.c4, z9.2.1.c5, z9.2.2.1.c0, z9.2.2.1.c1, z9.2.2.1.c2, z9.2.2.1.c3, z9.2.2.1.c4, z9.2.2.1.c5, z9⟩
    have HPUT : Hid (∀ (a : World) (q : Nat) (t1 t2 t3 t4 t5 t6 : Value), (k7 < q ∧ k8 < q ∧ k9 < q ∧ t10 < q ∧ t12 < q ∧ N ≤ q) → (a.cell? ⟨k7, 0, none⟩ = some (.int .i64 (up X.s)) ∧ a.cell? ⟨k7, 1, none⟩ = some (.bool X.k) ∧ a.cell? ⟨k7, 2, none⟩ = some (.int .i64 X.n) ∧ a.cell? ⟨k7, 3, none⟩ = some (.int .i64 X.lo) ∧ a.cell? ⟨k7, 4, none⟩ = some (.int .i64 X.hi) ∧ a.cell? ⟨k7, 5, none⟩ = some (.int .i64 (up X.p)) ∧ a.cell? ⟨k8, 0, none⟩ = some (.int .i64 (up Y.s)) ∧ a.cell? ⟨k8, 1, none⟩ = some (.bool Y.k) ∧ a.cell? ⟨k8, 2, none⟩ = some (.int .i64 Y.n) ∧ a.cell? ⟨k8, 3, none⟩ = some (.int .i64 Y.lo) ∧ a.cell? ⟨k8, 4, none⟩ = some (.int .i64 Y.hi) ∧ a.cell? ⟨k8, 5, none⟩ = some (.int .i64 (up Y.p)) ∧ a.cell? ⟨k9, 0, none⟩ = some (.int .i64 (up Z.s)) ∧ a.cell? ⟨k9, 1, none⟩ = some (.bool Z.k) ∧ a.cell? ⟨k9, 2, none⟩ = some (.int .i64 Z.n) ∧ a.cell? ⟨k9, 3, none⟩ = some (.int .i64 Z.lo) ∧ a.cell? ⟨k9, 4, none⟩ = some (.int .i64 Z.hi) ∧ a.cell? ⟨k9, 5, none⟩ = some (.int .i64 (up Z.p)) ∧ Hid (Br a k7 (up X.s) X.k X.n X.lo X.hi (up X.p) ∧ Br a k8 (up Y.s) Y.k Y.n Y.lo Y.hi (up Y.p) ∧ Br a k9 (up Z.s) Z.k Z.n Z.lo Z.hi (up Z.p) ∧ Br a t10 (up tx.s) tx.k tx.n tx.lo tx.hi (up tx.p) ∧ Fz a t10 ∧ Br a t12 (up ty.s) ty.k ty.n ty.lo ty.hi (up ty.p) ∧ Fz a t12 ∧ Below N w a ∧ N ≤ a.heap.size)) → ((st6 a q t1 t2 t3 t4 t5 t6).cell? ⟨k7, 0, none⟩ = some (.int .i64 (up X.s)) ∧ (st6 a q t1 t2 t3 t4 t5 t6).cell? ⟨k7, 1, none⟩ = some (.bool X.k) ∧ (st6 a q t1 t2 t3 t4 t5 t6).cell? ⟨k7, 2, none⟩ = some (.int .i64 X.n) ∧ (st6 a q t1 t2 t3 t4 t5 t6).cell? ⟨k7, 3, none⟩ = some (.int .i64 X.lo) ∧ (st6 a q t1 t2 t3 t4 t5 t6).cell? ⟨k7, 4, none⟩ = some (.int .i64 X.hi) ∧ (st6 a q t1 t2 t3 t4 t5 t6).cell? ⟨k7, 5, none⟩ = some (.int .i64 (up X.p)) ∧ (st6 a q t1 t2 t3 t4 t5 t6).cell? ⟨k8, 0, none⟩ = some (.int .i64 (up Y.s)) ∧ (st6 a q t1 t2 t3 t4 t5 t6).cell? ⟨k8, 1, none⟩ = some (.bool Y.k) ∧ (st6 a q t1 t2 t3 t4 t5 t6).cell? ⟨k8, 2, none⟩ = some (.int .i64 Y.n) ∧ (st6 a q t1 t2 t3 t4 t5 t6).cell? ⟨k8, 3, none⟩ = some (.int .i64 Y.lo) ∧ (st6 a q t1 t2 t3 t4 t5 t6).cell? ⟨k8, 4, none⟩ = some (.int .i64 Y.hi) ∧ (st6 a q t1 t2 t3 t4 t5 t6).cell? ⟨k8, 5, none⟩ = some (.int .i64 (up Y.p)) ∧ (st6 a q t1 t2 t3 t4 t5 t6).cell? ⟨k9, 0, none⟩ = some (.int .i64 (up Z.s)) ∧ (st6 a q t1 t2 t3 t4 t5 t6).cell? ⟨k9, 1, none⟩ = some (.bool Z.k) ∧ (st6 a q t1 t2 t3 t4 t5 t6).cell? ⟨k9, 2, none⟩ = some (.int .i64 Z.n) ∧ (st6 a q t1 t2 t3 t4 t5 t6).cell? ⟨k9, 3, none⟩ = some (.int .i64 Z.lo) ∧ (st6 a q t1 t2 t3 t4 t5 t6).cell? ⟨k9, 4, none⟩ = some (.int .i64 Z.hi) ∧ (st6 a q t1 t2 t3 t4 t5 t6).cell? ⟨k9, 5, none⟩ = some (.int .i64 (up Z.p)) ∧ Hid (Br (st6 a q t1 t2 t3 t4 t5 t6) k7 (up X.s) X.k X.n X.lo X.hi (up X.p) ∧ Br (st6 a q t1 t2 t3 t4 t5 t6) k8 (up Y.s) Y.k Y.n Y.lo Y.hi (up Y.p) ∧ Br (st6 a q t1 t2 t3 t4 t5 t6) k9 (up Z.s) Z.k Z.n Z.lo Z.hi (up Z.p) ∧ Br (st6 a q t1 t2 t3 t4 t5 t6) t10 (up tx.s) tx.k tx.n tx.lo tx.hi (up tx.p) ∧ Fz (st6 a q t1 t2 t3 t4 t5 t6) t10 ∧ Br (st6 a q t1 t2 t3 t4 t5 t6) t12 (up ty.s) ty.k ty.n ty.lo ty.hi (up ty.p) ∧ Fz (st6 a q t1 t2 t3 t4 t5 t6) t12 ∧ Below N w (st6 a q t1 t2 t3 t4 t5 t6) ∧ N ≤ (st6 a q t1 t2 t3 t4 t5 t6).heap.size))) := fun a q t1 t2 t3 t4 t5 t6 hq h => by
      have y9 := (h.2.2.2.2.2.2.2.2.2.2.2.2.2.2.2.2.2.2).out
      have z9 : Br (st6 a q t1 t2 t3 t4 t5 t6) k7 (up X.s) X.k X.n X.lo X.hi (up X.p) ∧ Br (st6 a q t1 t2 t3 t4 t5 t6) k8 (up Y.s) Y.k Y.n Y.lo Y.hi (up Y.p) ∧ Br (st6 a q t1 t2 t3 t4 t5 t6) k9 (up Z.s) Z.k Z.n Z.lo Z.hi (up Z.p) ∧ Br (st6 a q t1 t2 t3 t4 t5 t6) t10 (up tx.s) tx.k tx.n tx.lo tx.hi (up tx.p) ∧ Fz (st6 a q t1 t2 t3 t4 t5 t6) t10 ∧ Br (st6 a q t1 t2 t3 t4 t5 t6) t12 (up ty.s) ty.k ty.n ty.lo ty.hi (up ty.p) ∧ Fz (st6 a q t1 t2 t3 t4 t5 t6) t12 ∧ Below N w (st6 a q t1 t2 t3 t4 t5 t6) ∧ N ≤ (st6 a q t1 t2 t3 t4 t5 t6).heap.size := ⟨y9.1.put (by omega) _ _ _ _ _ _, y9.2.1.put (by omega) _ _ _ _ _ _, y9.2.2.1.put (by omega) _ _ _ _ _ _, y9.2.2.2.1.put (by omega) _ _ _ _ _ _, y9.2.2.2.2.1.put _ _ _ _ _ _, y9.2.2.2.2.2.1.put (by omega) _ _ _ _ _ _, y9.2.2.2.2.2.2.1.put _ _ _ _ _ _, st6_below y9.2.2.2.2.2.2.2.1 _ (by omega) _ _ _ _ _ _, by rw [st6_size]; exact y9.2.2.2.2.2.2.2.2⟩
      exact ⟨z9.1.c0, z9.1.c1, z9.1.c2, z9.1.c3, z9.1.c4, z9.1.c5, z9.2.1.c0, z9.2.1.c1, z9.2.1.c2, z9.2.1.c3, z9.2.1.c4, z9.2.1.c5, z9.2.2.1.c0, z9.2.2.1.c1, z9.2.2.1.c2, z9.2.2.1.c3, z9.2.2.1.c4, z9.2.2.1.c5, z9⟩
    have hS0 : wc.cell? ⟨k7, 0, none⟩ = some (.int .i64 (up X.s)) ∧ wc.cell? ⟨k7, 1, none⟩ = some (.bool X.k) ∧ wc.cell? ⟨k7, 2, none⟩ = some (.int .i64 X.n) ∧ wc.cell? ⟨k7, 3, none⟩ = some (.int .i64 X.lo) ∧ wc.cell? ⟨k7, 4, none⟩ = some (.int .i64 X.hi) ∧ wc.cell? ⟨k7, 5, none⟩ = some (.int .i64 (up X.p)) ∧ wc.cell? ⟨k8, 0, none⟩ = some (.int .i64 (up Y.s)) ∧ wc.cell? ⟨k8, 1, none⟩ = some (.bool Y.k) ∧ wc.cell? ⟨k8, 2, none⟩ = some (.int .i64 Y.n) ∧ wc.cell? ⟨k8, 3, none⟩ = some (.int .i64 Y.lo) ∧ wc.cell? ⟨k8, 4, none⟩ = some (.int .i64 Y.hi) ∧ wc.cell? ⟨k8, 5, none⟩ = some (.int .i64 (up Y.p)) ∧ wc.cell? ⟨k9, 0, none⟩ = some (.int .i64 (up Z.s)) ∧ wc.cell? ⟨k9, 1, none⟩ = some (.bool Z.k) ∧ wc.cell? ⟨k9, 2, none⟩ = some (.int .i64 Z.n) ∧ wc.cell? ⟨k9, 3, none⟩ = some (.int .i64 Z.lo) ∧ wc.cell? ⟨k9, 4, none⟩ = some (.int .i64 Z.hi) ∧ wc.cell? ⟨k9, 5, none⟩ = some (.int .i64 (up Z.p)) ∧ Hid (Br wc k7 (up X.s) X.k X.n X.lo X.hi (up X.p) ∧ Br wc k8 (up Y.s) Y.k Y.n Y.lo Y.hi (up Y.p) ∧ Br wc k9 (up Z.s) Z.k Z.n Z.lo Z.hi (up Z.p) ∧ Br wc t10 (up tx.s) tx.k tx.n tx.lo tx.hi (up tx.p) ∧ Fz wc t10 ∧ Br wc t12 (up ty.s) ty.k ty.n ty.lo ty.hi (up ty.p) ∧ Fz wc t12 ∧ Below N w wc ∧ N ≤ wc.heap.size) := ⟨H3b.out.1.c0, H3b.out.1.c1, H3b.out.1.c2, H3b.out.1.c3, H3b.out.1.c4, H3b.out.1.c5, H3b.out.2.1.c0, H3b.out.2.1.c1, H3b.out.2.1.c2, H3b.out.2.1.c3, H3b.out.2.1.c4, H3b.out.2.1.c5, H3b.out.2.2.1.c0, H3b.out.2.2.1.c1, H3b.out.2.2.1.c2, H3b.out.2.2.1.c3, H3b.out.2.2.1.c4, H3b.out.2.2.1.c5, H3b.out⟩
    go_cut [14, 15] (fun v1 v2 wy => ∃ q, v1 = .pointer (some ⟨q, 0, none⟩) ∧ v2 = .bool iz ∧ Hid ((Br wy k7 (up X.s) X.k X.n X.lo X.hi (up X.p) ∧ Br wy k8 (up Y.s) Y.k Y.n Y.lo Y.hi (up Y.p) ∧ Br wy k9 (up Z.s) Z.k Z.n Z.lo Z.hi (up Z.p) ∧ Br wy t10 (up tx.s) tx.k tx.n tx.lo tx.hi (up tx.p) ∧ Fz wy t10 ∧ Br wy t12 (up ty.s) ty.k ty.n ty.lo ty.hi (up ty.p) ∧ Fz wy t12 ∧ Below N w wy ∧ N ≤ wy.heap.size) ∧ Br wy q (up tz.s) tz.k tz.n tz.lo tz.hi (up tz.p) ∧ Fz wy q ∧ (k7 < q ∧ k8 < q ∧ k9 < q ∧ t10 < q ∧ t12 < q ∧ N ≤ q)))
    case first =>
      refine wp_region_held_drew (S := fun w' => w'.cell? ⟨k7, 0, none⟩ = some (.int .i64 (up X.s)) ∧ w'.cell? ⟨k7, 1, none⟩ = some (.bool X.k) ∧ w'.cell? ⟨k7, 2, none⟩ = some (.int .i64 X.n) ∧ w'.cell? ⟨k7, 3, none⟩ = some (.int .i64 X.lo) ∧ w'.cell? ⟨k7, 4, none⟩ = some (.int .i64 X.hi) ∧ w'.cell? ⟨k7, 5, none⟩ = some (.int .i64 (up X.p)) ∧ w'.cell? ⟨k8, 0, none⟩ = some (.int .i64 (up Y.s)) ∧ w'.cell? ⟨k8, 1, none⟩ = some (.bool Y.k) ∧ w'.cell? ⟨k8, 2, none⟩ = some (.int .i64 Y.n) ∧ w'.cell? ⟨k8, 3, none⟩ = some (.int .i64 Y.lo) ∧ w'.cell? ⟨k8, 4, none⟩ = some (.int .i64 Y.hi) ∧ w'.cell? ⟨k8, 5, none⟩ = some (.int .i64 (up Y.p)) ∧ w'.cell? ⟨k9, 0, none⟩ = some (.int .i64 (up Z.s)) ∧ w'.cell? ⟨k9, 1, none⟩ = some (.bool Z.k) ∧ w'.cell? ⟨k9, 2, none⟩ = some (.int .i64 Z.n) ∧ w'.cell? ⟨k9, 3, none⟩ = some (.int .i64 Z.lo) ∧ w'.cell? ⟨k9, 4, none⟩ = some (.int .i64 Z.hi) ∧ w'.cell? ⟨k9, 5, none⟩ = some (.int .i64 (up Z.p)) ∧ Hid (Br w' k7 (up X.s) X.k X.n X.lo X.hi (up X.p) ∧ Br w' k8 (up Y.s) Y.k Y.n Y.lo Y.hi (up Y.p) ∧ Br w' k9 (up Z.s) Z.k Z.n Z.lo Z.hi (up Z.p) ∧ Br w' t10 (up tx.s) tx.k tx.n tx.lo tx.hi (up tx.p) ∧ Fz w' t10 ∧ Br w' t12 (up ty.s) ty.k ty.n ty.lo ty.hi (up ty.p) ∧ Fz w' t12 ∧ Below N w w' ∧ N ≤ w'.heap.size)) (by kernel_rfl) (HCL.out _ _ hS0 ((Below.refl _ _).drew)) (fun hH0 => ?_)
      obtain ⟨w0, hw0⟩ : ∃ w0, w0 = wc.drew := ⟨_, rfl⟩
      rw [← hw0] at hH0 ⊢
      clear hw0
      refine wpAnyH_take (i := 0) (oi := ({ dst := some 45, op := Op.move (Operand.tmp 0), type := 3, pos := "law.go:87", after := #[], guard := none } : Oper)) (v := ?_) rfl (by kernel_rfl) (by kernel_rfl) (by kernel_rfl) (fun _ _ _ h => h) (Or.inl ⟨by rfl, ?_⟩) (by assumption) ?_
      rotate_left
      · (intro wz hSw; (try dsimp only at hSw); go_simp; try with_reducible rfl)
      simp only [Act.put, List.setIfInBounds_toArray, List.set_cons_zero, List.set_cons_succ]
      refine wpAnyH_take (i := 1) (oi := ({ dst := some 46, op := Op.load 33 (Operand.tmp 7), type := 33, pos := "law.go:87", after := #[], guard := none } : Oper)) (v := ?_) rfl (by kernel_rfl) (by kernel_rfl) (by kernel_rfl) (fun _ _ _ h => h) (Or.inl ⟨by rfl, ?_⟩) (by assumption) ?_
      rotate_left
      · (intro wz hSw; (try dsimp only at hSw); go_simp; try with_reducible rfl)
      simp only [Act.put, List.setIfInBounds_toArray, List.set_cons_zero, List.set_cons_succ]
      refine wpAnyH_take (i := 2) (oi := ({ dst := some 47, op := Op.load 33 (Operand.tmp 8), type := 33, pos := "law.go:87", after := #[], guard := none } : Oper)) (v := ?_) rfl (by kernel_rfl) (by kernel_rfl) (by kernel_rfl) (fun _ _ _ h => h) (Or.inl ⟨by rfl, ?_⟩) (by assumption) ?_
      rotate_left
      · (intro wz hSw; (try dsimp only at hSw); go_simp; try with_reducible rfl)
      simp only [Act.put, List.setIfInBounds_toArray, List.set_cons_zero, List.set_cons_succ]
      refine wpAnyH_take (i := 3) (oi := ({ dst := some 48, op := Op.load 33 (Operand.tmp 9), type := 33, pos := "law.go:87", after := #[], guard := none } : Oper)) (v := ?_) rfl (by kernel_rfl) (by kernel_rfl) (by kernel_rfl) (fun _ _ _ h => h) (Or.inl ⟨by rfl, ?_⟩) (by assumption) ?_
      rotate_left
      · (intro wz hSw; (try dsimp only at hSw); go_simp; try with_reducible rfl)
      simp only [Act.put, List.setIfInBounds_toArray, List.set_cons_zero, List.set_cons_succ]
      refine wpAnyH_ready (rs := [4, 9]) (by kernel_rfl) (by simp) ?_
      refine AllReadyH.cons (o := ({ dst := some 49, op := Op.call { callee := Callee.value (Operand.func 14), args := #[Operand.tmp 47, Operand.tmp 48], argTypes := #[33, 33] }, type := 33, pos := "law.go:87", after := #[{ on := 2, ground := Ground.data }, { on := 3, ground := Ground.data }], guard := none } : Oper)) rfl (fun K hK => ?_) (AllReadyH.cons (o := ({ dst := some 14, op := Op.alloc 33, type := 0, pos := "law.go:87", after := #[], guard := none } : Oper)) rfl (fun K hK => ?_) AllReadyH.nil)
      · go_simp
        go_at_call 14
        refine (cK _).mono ?_
        rintro e w1 ⟨rfl, hb1⟩
        refine hK.out _ _ (HCL.out _ _ hH0 hb1) (fun hH1 => ?_)
        clear hK K
        refine wpAnyH_ready (rs := [5, 9]) (by kernel_rfl) (by simp) ?_
        refine AllReadyH.cons (o := ({ dst := some 50, op := Op.call { callee := Callee.value (Operand.func 7), args := #[Operand.tmp 45, Operand.tmp 46, Operand.tmp 49], argTypes := #[3, 33, 33] }, type := 37, pos := "law.go:87", after := #[{ on := 0, ground := Ground.data }, { on := 1, ground := Ground.data }, { on := 4, ground := Ground.data }, { on := 4, ground := Ground.chain }], guard := none } : Oper)) rfl (fun K hK => ?_) (AllReadyH.cons (o := ({ dst := some 14, op := Op.alloc 33, type := 0, pos := "law.go:87", after := #[], guard := none } : Oper)) rfl (fun K hK => ?_) AllReadyH.nil)
        · go_simp
          go_at_call 7
          refine (cZ _ (globS_at HN.out HG.out.1 (hH1.2.2.2.2.2.2.2.2.2.2.2.2.2.2.2.2.2.2).out.2.2.2.2.2.2.2.1) (globP_at HN.out HG.out.2 (hH1.2.2.2.2.2.2.2.2.2.2.2.2.2.2.2.2.2.2).out.2.2.2.2.2.2.2.1)).mono ?_
          rintro e w2 ⟨rfl, hb2⟩
          refine hK.out _ _ (HCL.out _ _ hH1 hb2) (fun hH2 => ?_)
          clear hK K
          refine wpAnyH_take (i := 6) (oi := ({ dst := some 44, op := Op.move (Operand.tmp 50), type := 37, pos := "law.go:87", after := #[{ on := 5, ground := Ground.data }], guard := none } : Oper)) (v := ?_) rfl (by kernel_rfl) (by kernel_rfl) (by kernel_rfl) (fun _ _ _ h => h) (Or.inl ⟨by rfl, ?_⟩) (by assumption) ?_
          rotate_left
          · (intro wz hSw; (try dsimp only at hSw); go_simp; try with_reducible rfl)
          simp only [Act.put, List.setIfInBounds_toArray, List.set_cons_zero, List.set_cons_succ]
          refine wpAnyH_take (i := 7) (oi := ({ dst := some 51, op := Op.extract (Operand.tmp 44) 0, type := 33, pos := "law.go:87", after := #[{ on := 6, ground := Ground.data }], guard := none } : Oper)) (v := ?_) rfl (by kernel_rfl) (by kernel_rfl) (by kernel_rfl) (fun _ _ _ h => h) (Or.inl ⟨by rfl, ?_⟩) (by assumption) ?_
          rotate_left
          · (intro wz hSw; (try dsimp only at hSw); go_simp; try with_reducible rfl)
          simp only [Act.put, List.setIfInBounds_toArray, List.set_cons_zero, List.set_cons_succ]
          refine wpAnyH_take (i := 8) (oi := ({ dst := some 52, op := Op.extract (Operand.tmp 44) 1, type := 4, pos := "law.go:87", after := #[{ on := 6, ground := Ground.data }, { on := 10, ground := Ground.gcOnly Departure.lateStores }], guard := none } : Oper)) (v := ?_) rfl (by kernel_rfl) (by kernel_rfl) (by kernel_rfl) (fun _ _ _ h => h) (Or.inl ⟨by rfl, ?_⟩) (by assumption) ?_
          rotate_left
          · (intro wz hSw; (try dsimp only at hSw); go_simp; try with_reducible rfl)
          simp only [Act.put, List.setIfInBounds_toArray, List.set_cons_zero, List.set_cons_succ]
          refine wpAnyH_ready (rs := [9]) (by kernel_rfl) (by simp) ?_
          refine AllReadyH.cons (o := ({ dst := some 14, op := Op.alloc 33, type := 0, pos := "law.go:87", after := #[], guard := none } : Oper)) rfl (fun K hK => ?_) AllReadyH.nil
          · go_simp
            have hb3 : Below w2.heap.size w2 (w2.alloc (.cells #[.int .i64 0, .bool false, .int .i64 0, .int .i64 0, .int .i64 0, .int .i64 0] 33)) := (Below.refl _ _).alloc (Nat.le_refl _) _
            have M3 := Br.new w2 0 false 0 0 0 0 33
            have G3 := Fz.new w2 0 false 0 0 0 0 33
            have neM : k7 < w2.heap.size ∧ k8 < w2.heap.size ∧ k9 < w2.heap.size ∧ t10 < w2.heap.size ∧ t12 < w2.heap.size ∧ N ≤ w2.heap.size := ⟨((hH2.2.2.2.2.2.2.2.2.2.2.2.2.2.2.2.2.2.2).out.1).lt, ((hH2.2.2.2.2.2.2.2.2.2.2.2.2.2.2.2.2.2.2).out.2.1).lt, ((hH2.2.2.2.2.2.2.2.2.2.2.2.2.2.2.2.2.2.2).out.2.2.1).lt, ((hH2.2.2.2.2.2.2.2.2.2.2.2.2.2.2.2.2.2.2).out.2.2.2.1).lt, ((hH2.2.2.2.2.2.2.2.2.2.2.2.2.2.2.2.2.2.2).out.2.2.2.2.2.1).lt, (hH2.2.2.2.2.2.2.2.2.2.2.2.2.2.2.2.2.2.2).out.2.2.2.2.2.2.2.2⟩
            refine hK.out _ _ (HCL.out _ _ hH2 hb3) (fun hH3 => ?_)
            clear hK K
            obtain ⟨w3, hw3⟩ : ∃ w3, w3 = (w2.alloc (.cells #[.int .i64 0, .bool false, .int .i64 0, .int .i64 0, .int .i64 0, .int .i64 0] 33)) := ⟨_, rfl⟩
            rw [← hw3] at hH3 M3 G3 ⊢
            clear hw3 hb3
            generalize w2.heap.size = kM at *
            refine wpAnyH_ready (rs := [10]) (by kernel_rfl) (by simp) ?_
            refine AllReadyH.cons (o := ({ dst := none, op := Op.store 33 (Operand.tmp 14) (Operand.tmp 51), type := 0, pos := "law.go:87", after := #[{ on := 9, ground := Ground.data }, { on := 7, ground := Ground.data }, { on := 5, ground := Ground.chain }, { on := 0, ground := Ground.phase }, { on := 1, ground := Ground.phase }, { on := 2, ground := Ground.phase }, { on := 3, ground := Ground.phase }, { on := 4, ground := Ground.phase }, { on := 5, ground := Ground.phase }, { on := 6, ground := Ground.phase }, { on := 7, ground := Ground.phase }, { on := 8, ground := Ground.textOnly Departure.lateStores }, { on := 9, ground := Ground.phase }], guard := none } : Oper)) rfl (fun K hK => ?_) AllReadyH.nil
            · have c0 := M3.c0
              have c1 := M3.c1
              have c2 := M3.c2
              have c3 := M3.c3
              have c4 := M3.c4
              have c5 := M3.c5
              have f0 := G3.f0
              have f1 := G3.f1
              have f2 := G3.f2
              have f3 := G3.f3
              have f4 := G3.f4
              have f5 := G3.f5
              go_simp
              have M4 := M3.wrote (up tz.s) tz.k tz.n tz.lo tz.hi (up tz.p)
              have G4 := G3.put (q := kM) (.int .i64 (up tz.s)) (.bool tz.k) (.int .i64 tz.n) (.int .i64 tz.lo) (.int .i64 tz.hi) (.int .i64 (up tz.p))
              refine hK.out _ _ (HPUT.out _ kM _ _ _ _ _ _ neM hH3) (fun hH4 => ?_)
              clear hK K c0 c1 c2 c3 c4 c5 f0 f1 f2 f3 f4 f5
              refine wpAnyH_take (i := 11) (oi := ({ dst := some 15, op := Op.assign (Operand.tmp 52), type := 4, pos := "law.go:87", after := #[{ on := 8, ground := Ground.data }, { on := 10, ground := Ground.chain }, { on := 0, ground := Ground.phase }, { on := 1, ground := Ground.phase }, { on := 2, ground := Ground.phase }, { on := 3, ground := Ground.phase }, { on := 4, ground := Ground.phase }, { on := 5, ground := Ground.phase }, { on := 6, ground := Ground.phase }, { on := 7, ground := Ground.phase }, { on := 8, ground := Ground.phase }, { on := 9, ground := Ground.phase }, { on := 10, ground := Ground.phase }], guard := none } : Oper)) (v := ?_) rfl (by kernel_rfl) (by kernel_rfl) (by kernel_rfl) (fun _ _ _ h => h) (Or.inl ⟨by rfl, ?_⟩) (by assumption) ?_
              rotate_left
              · (intro wz hSw; (try dsimp only at hSw); go_simp; try with_reducible rfl)
              simp only [Act.put, List.setIfInBounds_toArray, List.set_cons_zero, List.set_cons_succ]
              refine wpAnyH_done (by kernel_rfl) ?_ _
              go_wp2
              go_meet
              case rel => exact ⟨_, rfl, rfl, (hH4.2.2.2.2.2.2.2.2.2.2.2.2.2.2.2.2.2.2).out, M4, G4, neM⟩
        · go_simp
          have hb2 : Below w1.heap.size w1 (w1.alloc (.cells #[.int .i64 0, .bool false, .int .i64 0, .int .i64 0, .int .i64 0, .int .i64 0] 33)) := (Below.refl _ _).alloc (Nat.le_refl _) _
          have M2 := Br.new w1 0 false 0 0 0 0 33
          have G2 := Fz.new w1 0 false 0 0 0 0 33
          have neM : k7 < w1.heap.size ∧ k8 < w1.heap.size ∧ k9 < w1.heap.size ∧ t10 < w1.heap.size ∧ t12 < w1.heap.size ∧ N ≤ w1.heap.size := ⟨((hH1.2.2.2.2.2.2.2.2.2.2.2.2.2.2.2.2.2.2).out.1).lt, ((hH1.2.2.2.2.2.2.2.2.2.2.2.2.2.2.2.2.2.2).out.2.1).lt, ((hH1.2.2.2.2.2.2.2.2.2.2.2.2.2.2.2.2.2.2).out.2.2.1).lt, ((hH1.2.2.2.2.2.2.2.2.2.2.2.2.2.2.2.2.2.2).out.2.2.2.1).lt, ((hH1.2.2.2.2.2.2.2.2.2.2.2.2.2.2.2.2.2.2).out.2.2.2.2.2.1).lt, (hH1.2.2.2.2.2.2.2.2.2.2.2.2.2.2.2.2.2.2).out.2.2.2.2.2.2.2.2⟩
          refine hK.out _ _ (HCL.out _ _ hH1 hb2) (fun hH2 => ?_)
          clear hK K
          obtain ⟨w2, hw2⟩ : ∃ w2, w2 = (w1.alloc (.cells #[.int .i64 0, .bool false, .int .i64 0, .int .i64 0, .int .i64 0, .int .i64 0] 33)) := ⟨_, rfl⟩
          rw [← hw2] at hH2 M2 G2 ⊢
          clear hw2 hb2
          generalize w1.heap.size = kM at *
          refine wpAnyH_ready (rs := [5]) (by kernel_rfl) (by simp) ?_
          refine AllReadyH.cons (o := ({ dst := some 50, op := Op.call { callee := Callee.value (Operand.func 7), args := #[Operand.tmp 45, Operand.tmp 46, Operand.tmp 49], argTypes := #[3, 33, 33] }, type := 37, pos := "law.go:87", after := #[{ on := 0, ground := Ground.data }, { on := 1, ground := Ground.data }, { on := 4, ground := Ground.data }, { on := 4, ground := Ground.chain }], guard := none } : Oper)) rfl (fun K hK => ?_) AllReadyH.nil
          · go_simp
            go_at_call 7
            refine (cZ _ (globS_at HN.out HG.out.1 (hH2.2.2.2.2.2.2.2.2.2.2.2.2.2.2.2.2.2.2).out.2.2.2.2.2.2.2.1) (globP_at HN.out HG.out.2 (hH2.2.2.2.2.2.2.2.2.2.2.2.2.2.2.2.2.2.2).out.2.2.2.2.2.2.2.1)).mono ?_
            rintro e w3 ⟨rfl, hb3⟩
            have M3 := M2.keep hb3
            have G3 := G2.keep M2.lt hb3
            refine hK.out _ _ (HCL.out _ _ hH2 hb3) (fun hH3 => ?_)
            clear hK K
            refine wpAnyH_take (i := 6) (oi := ({ dst := some 44, op := Op.move (Operand.tmp 50), type := 37, pos := "law.go:87", after := #[{ on := 5, ground := Ground.data }], guard := none } : Oper)) (v := ?_) rfl (by kernel_rfl) (by kernel_rfl) (by kernel_rfl) (fun _ _ _ h => h) (Or.inl ⟨by rfl, ?_⟩) (by assumption) ?_
            rotate_left
            · (intro wz hSw; (try dsimp only at hSw); go_simp; try with_reducible rfl)
            simp only [Act.put, List.setIfInBounds_toArray, List.set_cons_zero, List.set_cons_succ]
            refine wpAnyH_take (i := 7) (oi := ({ dst := some 51, op := Op.extract (Operand.tmp 44) 0, type := 33, pos := "law.go:87", after := #[{ on := 6, ground := Ground.data }], guard := none } : Oper)) (v := ?_) rfl (by kernel_rfl) (by kernel_rfl) (by kernel_rfl) (fun _ _ _ h => h) (Or.inl ⟨by rfl, ?_⟩) (by assumption) ?_
            rotate_left
            · (intro wz hSw; (try dsimp only at hSw); go_simp; try with_reducible rfl)
            simp only [Act.put, List.setIfInBounds_toArray, List.set_cons_zero, List.set_cons_succ]
            refine wpAnyH_take (i := 8) (oi := ({ dst := some 52, op := Op.extract (Operand.tmp 44) 1, type := 4, pos := "law.go:87", after := #[{ on := 6, ground := Ground.data }, { on := 10, ground := Ground.gcOnly Departure.lateStores }], guard := none } : Oper)) (v := ?_) rfl (by kernel_rfl) (by kernel_rfl) (by kernel_rfl) (fun _ _ _ h => h) (Or.inl ⟨by rfl, ?_⟩) (by assumption) ?_
            rotate_left
            · (intro wz hSw; (try dsimp only at hSw); go_simp; try with_reducible rfl)
            simp only [Act.put, List.setIfInBounds_toArray, List.set_cons_zero, List.set_cons_succ]
            refine wpAnyH_ready (rs := [10]) (by kernel_rfl) (by simp) ?_
            refine AllReadyH.cons (o := ({ dst := none, op := Op.store 33 (Operand.tmp 14) (Operand.tmp 51), type := 0, pos := "law.go:87", after := #[{ on := 9, ground := Ground.data }, { on := 7, ground := Ground.data }, { on := 5, ground := Ground.chain }, { on := 0, ground := Ground.phase }, { on := 1, ground := Ground.phase }, { on := 2, ground := Ground.phase }, { on := 3, ground := Ground.phase }, { on := 4, ground := Ground.phase }, { on := 5, ground := Ground.phase }, { on := 6, ground := Ground.phase }, { on := 7, ground := Ground.phase }, { on := 8, ground := Ground.textOnly Departure.lateStores }, { on := 9, ground := Ground.phase }], guard := none } : Oper)) rfl (fun K hK => ?_) AllReadyH.nil
            · have c0 := M3.c0
              have c1 := M3.c1
              have c2 := M3.c2
              have c3 := M3.c3
              have c4 := M3.c4
              have c5 := M3.c5
              have f0 := G3.f0
              have f1 := G3.f1
              have f2 := G3.f2
              have f3 := G3.f3
              have f4 := G3.f4
              have f5 := G3.f5
              go_simp
              have M4 := M3.wrote (up tz.s) tz.k tz.n tz.lo tz.hi (up tz.p)
              have G4 := G3.put (q := kM) (.int .i64 (up tz.s)) (.bool tz.k) (.int .i64 tz.n) (.int .i64 tz.lo) (.int .i64 tz.hi) (.int .i64 (up tz.p))
              refine hK.out _ _ (HPUT.out _ kM _ _ _ _ _ _ neM hH3) (fun hH4 => ?_)
              clear hK K c0 c1 c2 c3 c4 c5 f0 f1 f2 f3 f4 f5
              refine wpAnyH_take (i := 11) (oi := ({ dst := some 15, op := Op.assign (Operand.tmp 52), type := 4, pos := "law.go:87", after := #[{ on := 8, ground := Ground.data }, { on := 10, ground := Ground.chain }, { on := 0, ground := Ground.phase }, { on := 1, ground := Ground.phase }, { on := 2, ground := Ground.phase }, { on := 3, ground := Ground.phase }, { on := 4, ground := Ground.phase }, { on := 5, ground := Ground.phase }, { on := 6, ground := Ground.phase }, { on := 7, ground := Ground.phase }, { on := 8, ground := Ground.phase }, { on := 9, ground := Ground.phase }, { on := 10, ground := Ground.phase }], guard := none } : Oper)) (v := ?_) rfl (by kernel_rfl) (by kernel_rfl) (by kernel_rfl) (fun _ _ _ h => h) (Or.inl ⟨by rfl, ?_⟩) (by assumption) ?_
              rotate_left
              · (intro wz hSw; (try dsimp only at hSw); go_simp; try with_reducible rfl)
              simp only [Act.put, List.setIfInBounds_toArray, List.set_cons_zero, List.set_cons_succ]
              refine wpAnyH_done (by kernel_rfl) ?_ _
              go_wp2
              go_meet
              case rel => exact ⟨_, rfl, rfl, (hH4.2.2.2.2.2.2.2.2.2.2.2.2.2.2.2.2.2.2).out, M4, G4, neM⟩
      · go_simp
        have hb1 : Below w0.heap.size w0 (w0.alloc (.cells #[.int .i64 0, .bool false, .int .i64 0, .int .i64 0, .int .i64 0, .int .i64 0] 33)) := (Below.refl _ _).alloc (Nat.le_refl _) _
        have M1 := Br.new w0 0 false 0 0 0 0 33
        have G1 := Fz.new w0 0 false 0 0 0 0 33
        have neM : k7 < w0.heap.size ∧ k8 < w0.heap.size ∧ k9 < w0.heap.size ∧ t10 < w0.heap.size ∧ t12 < w0.heap.size ∧ N ≤ w0.heap.size := ⟨((hH0.2.2.2.2.2.2.2.2.2.2.2.2.2.2.2.2.2.2).out.1).lt, ((hH0.2.2.2.2.2.2.2.2.2.2.2.2.2.2.2.2.2.2).out.2.1).lt, ((hH0.2.2.2.2.2.2.2.2.2.2.2.2.2.2.2.2.2.2).out.2.2.1).lt, ((hH0.2.2.2.2.2.2.2.2.2.2.2.2.2.2.2.2.2.2).out.2.2.2.1).lt, ((hH0.2.2.2.2.2.2.2.2.2.2.2.2.2.2.2.2.2.2).out.2.2.2.2.2.1).lt, (hH0.2.2.2.2.2.2.2.2.2.2.2.2.2.2.2.2.2.2).out.2.2.2.2.2.2.2.2⟩
        refine hK.out _ _ (HCL.out _ _ hH0 hb1) (fun hH1 => ?_)
        clear hK K
        obtain ⟨w1, hw1⟩ : ∃ w1, w1 = (w0.alloc (.cells #[.int .i64 0, .bool false, .int .i64 0, .int .i64 0, .int .i64 0, .int .i64 0] 33)) := ⟨_, rfl⟩
        rw [← hw1] at hH1 M1 G1 ⊢
        clear hw1 hb1
        generalize w0.heap.size = kM at *
        refine wpAnyH_ready (rs := [4]) (by kernel_rfl) (by simp) ?_
        refine AllReadyH.cons (o := ({ dst := some 49, op := Op.call { callee := Callee.value (Operand.func 14), args := #[Operand.tmp 47, Operand.tmp 48], argTypes := #[33, 33] }, type := 33, pos := "law.go:87", after := #[{ on := 2, ground := Ground.data }, { on := 3, ground := Ground.data }], guard := none } : Oper)) rfl (fun K hK => ?_) AllReadyH.nil
        · go_simp
          go_at_call 14
          refine (cK _).mono ?_
          rintro e w2 ⟨rfl, hb2⟩
          have M2 := M1.keep hb2
          have G2 := G1.keep M1.lt hb2
          refine hK.out _ _ (HCL.out _ _ hH1 hb2) (fun hH2 => ?_)
          clear hK K
          refine wpAnyH_ready (rs := [5]) (by kernel_rfl) (by simp) ?_
          refine AllReadyH.cons (o := ({ dst := some 50, op := Op.call { callee := Callee.value (Operand.func 7), args := #[Operand.tmp 45, Operand.tmp 46, Operand.tmp 49], argTypes := #[3, 33, 33] }, type := 37, pos := "law.go:87", after := #[{ on := 0, ground := Ground.data }, { on := 1, ground := Ground.data }, { on := 4, ground := Ground.data }, { on := 4, ground := Ground.chain }], guard := none } : Oper)) rfl (fun K hK => ?_) AllReadyH.nil
          · go_simp
            go_at_call 7
            refine (cZ _ (globS_at HN.out HG.out.1 (hH2.2.2.2.2.2.2.2.2.2.2.2.2.2.2.2.2.2.2).out.2.2.2.2.2.2.2.1) (globP_at HN.out HG.out.2 (hH2.2.2.2.2.2.2.2.2.2.2.2.2.2.2.2.2.2.2).out.2.2.2.2.2.2.2.1)).mono ?_
            rintro e w3 ⟨rfl, hb3⟩
            have M3 := M2.keep hb3
            have G3 := G2.keep M2.lt hb3
            refine hK.out _ _ (HCL.out _ _ hH2 hb3) (fun hH3 => ?_)
            clear hK K
            refine wpAnyH_take (i := 6) (oi := ({ dst := some 44, op := Op.move (Operand.tmp 50), type := 37, pos := "law.go:87", after := #[{ on := 5, ground := Ground.data }], guard := none } : Oper)) (v := ?_) rfl (by kernel_rfl) (by kernel_rfl) (by kernel_rfl) (fun _ _ _ h => h) (Or.inl ⟨by rfl, ?_⟩) (by assumption) ?_
            rotate_left
            · (intro wz hSw; (try dsimp only at hSw); go_simp; try with_reducible rfl)
            simp only [Act.put, List.setIfInBounds_toArray, List.set_cons_zero, List.set_cons_succ]
            refine wpAnyH_take (i := 7) (oi := ({ dst := some 51, op := Op.extract (Operand.tmp 44) 0, type := 33, pos := "law.go:87", after := #[{ on := 6, ground := Ground.data }], guard := none } : Oper)) (v := ?_) rfl (by kernel_rfl) (by kernel_rfl) (by kernel_rfl) (fun _ _ _ h => h) (Or.inl ⟨by rfl, ?_⟩) (by assumption) ?_
            rotate_left
            · (intro wz hSw; (try dsimp only at hSw); go_simp; try with_reducible rfl)
            simp only [Act.put, List.setIfInBounds_toArray, List.set_cons_zero, List.set_cons_succ]
            refine wpAnyH_take (i := 8) (oi := ({ dst := some 52, op := Op.extract (Operand.tmp 44) 1, type := 4, pos := "law.go:87", after := #[{ on := 6, ground := Ground.data }, { on := 10, ground := Ground.gcOnly Departure.lateStores }], guard := none } : Oper)) (v := ?_) rfl (by kernel_rfl) (by kernel_rfl) (by kernel_rfl) (fun _ _ _ h => h) (Or.inl ⟨by rfl, ?_⟩) (by assumption) ?_
            rotate_left
            · (intro wz hSw; (try dsimp only at hSw); go_simp; try with_reducible rfl)
            simp only [Act.put, List.setIfInBounds_toArray, List.set_cons_zero, List.set_cons_succ]
            refine wpAnyH_ready (rs := [10]) (by kernel_rfl) (by simp) ?_
            refine AllReadyH.cons (o := ({ dst := none, op := Op.store 33 (Operand.tmp 14) (Operand.tmp 51), type := 0, pos := "law.go:87", after := #[{ on := 9, ground := Ground.data }, { on := 7, ground := Ground.data }, { on := 5, ground := Ground.chain }, { on := 0, ground := Ground.phase }, { on := 1, ground := Ground.phase }, { on := 2, ground := Ground.phase }, { on := 3, ground := Ground.phase }, { on := 4, ground := Ground.phase }, { on := 5, ground := Ground.phase }, { on := 6, ground := Ground.phase }, { on := 7, ground := Ground.phase }, { on := 8, ground := Ground.textOnly Departure.lateStores }, { on := 9, ground := Ground.phase }], guard := none } : Oper)) rfl (fun K hK => ?_) AllReadyH.nil
            · have c0 := M3.c0
              have c1 := M3.c1
              have c2 := M3.c2
              have c3 := M3.c3
              have c4 := M3.c4
              have c5 := M3.c5
              have f0 := G3.f0
              have f1 := G3.f1
              have f2 := G3.f2
              have f3 := G3.f3
              have f4 := G3.f4
              have f5 := G3.f5
              go_simp
              have M4 := M3.wrote (up tz.s) tz.k tz.n tz.lo tz.hi (up tz.p)
              have G4 := G3.put (q := kM) (.int .i64 (up tz.s)) (.bool tz.k) (.int .i64 tz.n) (.int .i64 tz.lo) (.int .i64 tz.hi) (.int .i64 (up tz.p))
              refine hK.out _ _ (HPUT.out _ kM _ _ _ _ _ _ neM hH3) (fun hH4 => ?_)
              clear hK K c0 c1 c2 c3 c4 c5 f0 f1 f2 f3 f4 f5
              refine wpAnyH_take (i := 11) (oi := ({ dst := some 15, op := Op.assign (Operand.tmp 52), type := 4, pos := "law.go:87", after := #[{ on := 8, ground := Ground.data }, { on := 10, ground := Ground.chain }, { on := 0, ground := Ground.phase }, { on := 1, ground := Ground.phase }, { on := 2, ground := Ground.phase }, { on := 3, ground := Ground.phase }, { on := 4, ground := Ground.phase }, { on := 5, ground := Ground.phase }, { on := 6, ground := Ground.phase }, { on := 7, ground := Ground.phase }, { on := 8, ground := Ground.phase }, { on := 9, ground := Ground.phase }, { on := 10, ground := Ground.phase }], guard := none } : Oper)) (v := ?_) rfl (by kernel_rfl) (by kernel_rfl) (by kernel_rfl) (fun _ _ _ h => h) (Or.inl ⟨by rfl, ?_⟩) (by assumption) ?_
              rotate_left
              · (intro wz hSw; (try dsimp only at hSw); go_simp; try with_reducible rfl)
              simp only [Act.put, List.setIfInBounds_toArray, List.set_cons_zero, List.set_cons_succ]
              refine wpAnyH_done (by kernel_rfl) ?_ _
              go_wp2
              go_meet
              case rel => exact ⟨_, rfl, rfl, (hH4.2.2.2.2.2.2.2.2.2.2.2.2.2.2.2.2.2.2).out, M4, G4, neM⟩
    case rest =>
      obtain ⟨q, rfl, rfl, H4⟩ := hcut
      clear hS0 HCL HPUT
      obtain ⟨t14, ht14⟩ : ∃ t, t = q := ⟨_, rfl⟩
      rw [← ht14] at H4 ⊢
      clear ht14 q H3b cZ cK
      have RI : Hid (Fi w wc N k7 k9 t10 t12 X Z tx ty ∧ Br wc t14 (up tz.s) tz.k tz.n tz.lo tz.hi (up tz.p)) := ⟨⟨H4.out.1.1, H4.out.1.2.2.1, H4.out.1.2.2.2.1, H4.out.1.2.2.2.2.1, H4.out.1.2.2.2.2.2.1, H4.out.1.2.2.2.2.2.2.1, H4.out.1.2.2.2.2.2.2.2.1, ⟨HD.out.1, HD.out.2.1, Nat.ne_of_lt HE.out.1, Nat.ne_of_lt HE.out.2.1, Nat.ne_of_lt HE.out.2.2.1, HD.out.2.2, HE.out.2.2.2⟩, H4.out.1.2.2.2.2.2.2.2.2⟩, H4.out.2.1⟩
      clear H4 HD HE
      go_upto_region 5 with fail
      go_cut [11, 13, 15, 77] (fun _ _ _ v1 wy => v1 = .bool false ∧ Hid (Fi w wy N k7 k9 t10 t12 X Z tx ty))
      case first =>
        have a0 := RI.out.1.x.c0
        have a1 := RI.out.1.x.c1
        have a2 := RI.out.1.x.c2
        have a3 := RI.out.1.x.c3
        have a4 := RI.out.1.x.c4
        have a5 := RI.out.1.x.c5
        have b0 := RI.out.1.y.c0
        have b1 := RI.out.1.y.c1
        have b2 := RI.out.1.y.c2
        have b3 := RI.out.1.y.c3
        have b4 := RI.out.1.y.c4
        have b5 := RI.out.1.y.c5
        have d0 := RI.out.2.c0
        have d1 := RI.out.2.c1
        have d2 := RI.out.2.c2
        have d3 := RI.out.2.c3
        have d4 := RI.out.2.c4
        have d5 := RI.out.2.c5
        cases ix
        · clear u1 u2
          go_wp2_with (go_at_call 8; refine (told_any _).mono ?_; rintro e w1 ⟨rfl, hb1⟩; have RZ := hide (And.intro (RI.out.1.keep hb1) (RI.out.2.keep hb1)); clear RI hb1 a0 a1 a2 a3 a4 a5 b0 b1 b2 b3 b4 b5 d0 d1 d2 d3 d4 d5; have RI := RZ; clear RZ; have a0 := RI.out.1.x.c0; have a1 := RI.out.1.x.c1; have a2 := RI.out.1.x.c2; have a3 := RI.out.1.x.c3; have a4 := RI.out.1.x.c4; have a5 := RI.out.1.x.c5; have b0 := RI.out.1.y.c0; have b1 := RI.out.1.y.c1; have b2 := RI.out.1.y.c2; have b3 := RI.out.1.y.c3; have b4 := RI.out.1.y.c4; have b5 := RI.out.1.y.c5; have d0 := RI.out.2.c0; have d1 := RI.out.2.c1; have d2 := RI.out.2.c2; have d3 := RI.out.2.c3; have d4 := RI.out.2.c4; have d5 := RI.out.2.c5)
          go_meet
          case rel => exact ⟨rfl, RI.out.1⟩
        · obtain ⟨rfl, rfl⟩ := HR.out.1 rfl
          obtain ⟨rfl, rfl⟩ := HR.out.2.1 rfl
          go_wp2_with (first | (go_at_call 8; refine (told_any _).mono ?_; rintro e w1 ⟨rfl, hb1⟩; have RZ := hide (And.intro (RI.out.1.keep hb1) (RI.out.2.keep hb1)); clear RI hb1 a0 a1 a2 a3 a4 a5 b0 b1 b2 b3 b4 b5 d0 d1 d2 d3 d4 d5; have RI := RZ; clear RZ; have a0 := RI.out.1.x.c0; have a1 := RI.out.1.x.c1; have a2 := RI.out.1.x.c2; have a3 := RI.out.1.x.c3; have a4 := RI.out.1.x.c4; have a5 := RI.out.1.x.c5; have b0 := RI.out.1.y.c0; have b1 := RI.out.1.y.c1; have b2 := RI.out.1.y.c2; have b3 := RI.out.1.y.c3; have b4 := RI.out.1.y.c4; have b5 := RI.out.1.y.c5; have d0 := RI.out.2.c0; have d1 := RI.out.2.c1; have d2 := RI.out.2.c2; have d3 := RI.out.2.c3; have d4 := RI.out.2.c4; have d5 := RI.out.2.c5) | (go_at_call 15; refine (u1 _).mono ?_; rintro e w1 ⟨rfl, hb1⟩; have RZ := hide (And.intro (RI.out.1.keep hb1) (RI.out.2.keep hb1)); clear RI hb1 a0 a1 a2 a3 a4 a5 b0 b1 b2 b3 b4 b5 d0 d1 d2 d3 d4 d5 u1; have RI := RZ; clear RZ; have a0 := RI.out.1.x.c0; have a1 := RI.out.1.x.c1; have a2 := RI.out.1.x.c2; have a3 := RI.out.1.x.c3; have a4 := RI.out.1.x.c4; have a5 := RI.out.1.x.c5; have b0 := RI.out.1.y.c0; have b1 := RI.out.1.y.c1; have b2 := RI.out.1.y.c2; have b3 := RI.out.1.y.c3; have b4 := RI.out.1.y.c4; have b5 := RI.out.1.y.c5; have d0 := RI.out.2.c0; have d1 := RI.out.2.c1; have d2 := RI.out.2.c2; have d3 := RI.out.2.c3; have d4 := RI.out.2.c4; have d5 := RI.out.2.c5) | (go_at_call 15; refine (u2 _).mono ?_; rintro e w1 ⟨rfl, hb1⟩; have RZ := hide (And.intro (RI.out.1.keep hb1) (RI.out.2.keep hb1)); clear RI hb1 a0 a1 a2 a3 a4 a5 b0 b1 b2 b3 b4 b5 d0 d1 d2 d3 d4 d5 u2; have RI := RZ; clear RZ; have a0 := RI.out.1.x.c0; have a1 := RI.out.1.x.c1; have a2 := RI.out.1.x.c2; have a3 := RI.out.1.x.c3; have a4 := RI.out.1.x.c4; have a5 := RI.out.1.x.c5; have b0 := RI.out.1.y.c0; have b1 := RI.out.1.y.c1; have b2 := RI.out.1.y.c2; have b3 := RI.out.1.y.c3; have b4 := RI.out.1.y.c4; have b5 := RI.out.1.y.c5; have d0 := RI.out.2.c0; have d1 := RI.out.2.c1; have d2 := RI.out.2.c2; have d3 := RI.out.2.c3; have d4 := RI.out.2.c4; have d5 := RI.out.2.c5))
          go_meet
          case rel => exact ⟨rfl, RI.out.1⟩
      case rest =>
        obtain ⟨rfl, RJ⟩ := hcut
        clear RI u1 u2
        go_upto_region 7 with fail
        have a0 := RJ.out.a.c0
        have a1 := RJ.out.a.c1
        have a2 := RJ.out.a.c2
        have a3 := RJ.out.a.c3
        have a4 := RJ.out.a.c4
        have a5 := RJ.out.a.c5
        have b0 := RJ.out.c.c0
        have b1 := RJ.out.c.c1
        have b2 := RJ.out.c.c2
        have b3 := RJ.out.c.c3
        have b4 := RJ.out.c.c4
        have b5 := RJ.out.c.c5
        go_upto_region 8 with (go_at_call 10; refine (cO _).mono ?_; rintro e wK ⟨rfl, hK⟩; have RK := RJ.out.keep hK; have s0 := RK.x.c0; have s1 := RK.x.c1; have s2 := RK.x.c2; have s3 := RK.x.c3; have s4 := RK.x.c4; have s5 := RK.x.c5; have f0 := RK.xf.f0; have f1 := RK.xf.f1; have f2 := RK.xf.f2; have f3 := RK.xf.f3; have f4 := RK.xf.f4; have f5 := RK.xf.f5)
        go_name_world W8 hW
        have R8 : Hid (Fi w W8 N k7 k9 t10 t12 X Z ox ty) := by rw [← hW]; exact RK.setx ox
        clear hW hK RK s0 s1 s2 s3 s4 s5 f0 f1 f2 f3 f4 f5 a0 a1 a2 a3 a4 a5 b0 b1 b2 b3 b4 b5 RJ  cO
        have a0 := R8.out.a.c0
        have a1 := R8.out.a.c1
        have a2 := R8.out.a.c2
        have a3 := R8.out.a.c3
        have a4 := R8.out.a.c4
        have a5 := R8.out.a.c5
        have b0 := R8.out.c.c0
        have b1 := R8.out.c.c1
        have b2 := R8.out.c.c2
        have b3 := R8.out.c.c3
        have b4 := R8.out.c.c4
        have b5 := R8.out.c.c5
        go_upto_region 9 with (first | (go_at_call 14; refine (cJ _).mono ?_; rintro e wJ ⟨rfl, hJ⟩; have RQ := R8.out.keep hJ) | (go_at_call 10; refine (cV _).mono ?_; rintro e wK ⟨rfl, hK⟩; have RK := RQ.keep hK; have s0 := RK.y.c0; have s1 := RK.y.c1; have s2 := RK.y.c2; have s3 := RK.y.c3; have s4 := RK.y.c4; have s5 := RK.y.c5; have f0 := RK.yf.f0; have f1 := RK.yf.f1; have f2 := RK.yf.f2; have f3 := RK.yf.f3; have f4 := RK.yf.f4; have f5 := RK.yf.f5))
        go_name_world W9 hW
        have R9 : Hid (Fi w W9 N k7 k9 t10 t12 X Z ox oy) := by rw [← hW]; exact RK.sety oy
        clear hW hK RK s0 s1 s2 s3 s4 s5 f0 f1 f2 f3 f4 f5 a0 a1 a2 a3 a4 a5 b0 b1 b2 b3 b4 b5 R8 RQ hJ cV
        go_cut [11, 13, 102] (fun _ _ v1 wy => v1 = .bool false ∧ Hid (Fi w wy N k7 k9 t10 t12 X Z ox oy))
        case first =>
          have a0 := R9.out.x.c0
          have a1 := R9.out.x.c1
          have a2 := R9.out.x.c2
          have a3 := R9.out.x.c3
          have a4 := R9.out.x.c4
          have a5 := R9.out.x.c5
          have b0 := R9.out.y.c0
          have b1 := R9.out.y.c1
          have b2 := R9.out.y.c2
          have b3 := R9.out.y.c3
          have b4 := R9.out.y.c4
          have b5 := R9.out.y.c5
          cases jx
          · clear u3
            go_wp2_with fail
            go_meet
            case rel => exact ⟨rfl, R9⟩
          · obtain ⟨rfl, rfl⟩ := HR.out.2.2.1 rfl
            go_wp2_with (go_at_call 15; refine (u3 _).mono ?_; rintro e w1 ⟨rfl, hb1⟩; have RZ := hide (R9.out.keep hb1); clear R9 hb1 a0 a1 a2 a3 a4 a5 b0 b1 b2 b3 b4 b5 u3; have R9 := RZ; clear RZ; have a0 := R9.out.x.c0; have a1 := R9.out.x.c1; have a2 := R9.out.x.c2; have a3 := R9.out.x.c3; have a4 := R9.out.x.c4; have a5 := R9.out.x.c5; have b0 := R9.out.y.c0; have b1 := R9.out.y.c1; have b2 := R9.out.y.c2; have b3 := R9.out.y.c3; have b4 := R9.out.y.c4; have b5 := R9.out.y.c5)
            go_meet
            case rel => exact ⟨rfl, R9⟩
        case rest =>
          obtain ⟨rfl, RL⟩ := hcut
          clear R9 u3
          go_wp2_with fail
          go_loopw [16] (fun ix wr => ∃ (i : Nat) (x y : V), i ≤ 2 ∧ ix = .int .i64 i ∧ Hid (Fi w wr N k7 k9 t10 t12 X Z x y)) (fun i _ => 2 - (intOf i).toNat)
          case atStart => exact ⟨0, _, _, by omega, rfl, RL⟩
          case round =>
            obtain ⟨i, x, y, hi, rfl, RA⟩ := hrel
            clear RL
            rcases (by omega : i = 0 ∨ i = 1 ∨ i = 2) with rfl | rfl | rfl
            · have hbr := HR.out.2.2.2 false
              have cP := fun w => branch_V X false w
              have cQ := fun w => branch_V J false w
              have pP := br_pa false X
              have pQ := br_pa false J
              generalize branchV X false = BP at *
              generalize branchV J false = BQ at *
              obtain ⟨bp, ip⟩ := BP
              obtain ⟨bq, iq⟩ := BQ
              dsimp only at cP cQ pP pQ hbr
              have u4 := fun w => within_V bp bq w pP pQ
              clear pP pQ
              generalize withinV bp bq = b4 at *
              have HBR : Hid (ip = true → iq = true ∧ b4 = true) := hbr
              clear hbr
              have a0 := RA.out.a.c0
              have a1 := RA.out.a.c1
              have a2 := RA.out.a.c2
              have a3 := RA.out.a.c3
              have a4 := RA.out.a.c4
              have a5 := RA.out.a.c5
              have b0 := RA.out.c.c0
              have b1 := RA.out.c.c1
              have b2 := RA.out.c.c2
              have b3 := RA.out.c.c3
              have b4 := RA.out.c.c4
              have b5 := RA.out.c.c5
              go_upto_region 15 with (go_at_call 11; refine (cP _).mono ?_; rintro e wK ⟨rfl, hK⟩; have RK := RA.out.keep hK; have s0 := RK.x.c0; have s1 := RK.x.c1; have s2 := RK.x.c2; have s3 := RK.x.c3; have s4 := RK.x.c4; have s5 := RK.x.c5; have f0 := RK.xf.f0; have f1 := RK.xf.f1; have f2 := RK.xf.f2; have f3 := RK.xf.f3; have f4 := RK.xf.f4; have f5 := RK.xf.f5)
              go_name_world W15 hW
              have R15 : Hid (Fi w W15 N k7 k9 t10 t12 X Z bp y) := by rw [← hW]; exact RK.setx bp
              clear hW hK RK s0 s1 s2 s3 s4 s5 f0 f1 f2 f3 f4 f5 a0 a1 a2 a3 a4 a5 b0 b1 b2 b3 b4 b5 RA  cP
              have a0 := R15.out.a.c0
              have a1 := R15.out.a.c1
              have a2 := R15.out.a.c2
              have a3 := R15.out.a.c3
              have a4 := R15.out.a.c4
              have a5 := R15.out.a.c5
              have b0 := R15.out.c.c0
              have b1 := R15.out.c.c1
              have b2 := R15.out.c.c2
              have b3 := R15.out.c.c3
              have b4 := R15.out.c.c4
              have b5 := R15.out.c.c5
              go_upto_region 16 with (first | (go_at_call 14; refine (cJ _).mono ?_; rintro e wJ ⟨rfl, hJ⟩; have RQ := R15.out.keep hJ) | (go_at_call 11; refine (cQ _).mono ?_; rintro e wK ⟨rfl, hK⟩; have RK := RQ.keep hK; have s0 := RK.y.c0; have s1 := RK.y.c1; have s2 := RK.y.c2; have s3 := RK.y.c3; have s4 := RK.y.c4; have s5 := RK.y.c5; have f0 := RK.yf.f0; have f1 := RK.yf.f1; have f2 := RK.yf.f2; have f3 := RK.yf.f3; have f4 := RK.yf.f4; have f5 := RK.yf.f5))
              go_name_world W16 hW
              have R16 : Hid (Fi w W16 N k7 k9 t10 t12 X Z bp bq) := by rw [← hW]; exact RK.sety bq
              clear hW hK RK s0 s1 s2 s3 s4 s5 f0 f1 f2 f3 f4 f5 a0 a1 a2 a3 a4 a5 b0 b1 b2 b3 b4 b5 R15 RQ hJ cQ
              have a0 := R16.out.x.c0
              have a1 := R16.out.x.c1
              have a2 := R16.out.x.c2
              have a3 := R16.out.x.c3
              have a4 := R16.out.x.c4
              have a5 := R16.out.x.c5
              have b0 := R16.out.y.c0
              have b1 := R16.out.y.c1
              have b2 := R16.out.y.c2
              have b3 := R16.out.y.c3
              have b4 := R16.out.y.c4
              have b5 := R16.out.y.c5
              cases ip
              · clear u4
                go_wp2_with fail
                go_round
                case rel => exact ⟨1, _, _, by omega, rfl, R16⟩
                case measure => simp [intOf]
              · obtain ⟨rfl, rfl⟩ := HBR.out rfl
                go_wp2_with (go_at_call 15; refine (u4 _).mono ?_; rintro e w1 ⟨rfl, hb1⟩; have RZ := hide (R16.out.keep hb1); clear R16 hb1 a0 a1 a2 a3 a4 a5 b0 b1 b2 b3 b4 b5 u4; have R16 := RZ; clear RZ; have a0 := R16.out.x.c0; have a1 := R16.out.x.c1; have a2 := R16.out.x.c2; have a3 := R16.out.x.c3; have a4 := R16.out.x.c4; have a5 := R16.out.x.c5; have b0 := R16.out.y.c0; have b1 := R16.out.y.c1; have b2 := R16.out.y.c2; have b3 := R16.out.y.c3; have b4 := R16.out.y.c4; have b5 := R16.out.y.c5)
                go_round
                case rel => exact ⟨1, _, _, by omega, rfl, R16⟩
                case measure => simp [intOf]
            · have hbr := HR.out.2.2.2 true
              have cP := fun w => branch_V X true w
              have cQ := fun w => branch_V J true w
              have pP := br_pa true X
              have pQ := br_pa true J
              generalize branchV X true = BP at *
              generalize branchV J true = BQ at *
              obtain ⟨bp, ip⟩ := BP
              obtain ⟨bq, iq⟩ := BQ
              dsimp only at cP cQ pP pQ hbr
              have u4 := fun w => within_V bp bq w pP pQ
              clear pP pQ
              generalize withinV bp bq = b4 at *
              have HBR : Hid (ip = true → iq = true ∧ b4 = true) := hbr
              clear hbr
              have a0 := RA.out.a.c0
              have a1 := RA.out.a.c1
              have a2 := RA.out.a.c2
              have a3 := RA.out.a.c3
              have a4 := RA.out.a.c4
              have a5 := RA.out.a.c5
              have b0 := RA.out.c.c0
              have b1 := RA.out.c.c1
              have b2 := RA.out.c.c2
              have b3 := RA.out.c.c3
              have b4 := RA.out.c.c4
              have b5 := RA.out.c.c5
              go_upto_region 15 with (go_at_call 11; refine (cP _).mono ?_; rintro e wK ⟨rfl, hK⟩; have RK := RA.out.keep hK; have s0 := RK.x.c0; have s1 := RK.x.c1; have s2 := RK.x.c2; have s3 := RK.x.c3; have s4 := RK.x.c4; have s5 := RK.x.c5; have f0 := RK.xf.f0; have f1 := RK.xf.f1; have f2 := RK.xf.f2; have f3 := RK.xf.f3; have f4 := RK.xf.f4; have f5 := RK.xf.f5)
              go_name_world W15 hW
              have R15 : Hid (Fi w W15 N k7 k9 t10 t12 X Z bp y) := by rw [← hW]; exact RK.setx bp
              clear hW hK RK s0 s1 s2 s3 s4 s5 f0 f1 f2 f3 f4 f5 a0 a1 a2 a3 a4 a5 b0 b1 b2 b3 b4 b5 RA  cP
              have a0 := R15.out.a.c0
              have a1 := R15.out.a.c1
              have a2 := R15.out.a.c2
              have a3 := R15.out.a.c3
              have a4 := R15.out.a.c4
              have a5 := R15.out.a.c5
              have b0 := R15.out.c.c0
              have b1 := R15.out.c.c1
              have b2 := R15.out.c.c2
              have b3 := R15.out.c.c3
              have b4 := R15.out.c.c4
              have b5 := R15.out.c.c5
              go_upto_region 16 with (first | (go_at_call 14; refine (cJ _).mono ?_; rintro e wJ ⟨rfl, hJ⟩; have RQ := R15.out.keep hJ) | (go_at_call 11; refine (cQ _).mono ?_; rintro e wK ⟨rfl, hK⟩; have RK := RQ.keep hK; have s0 := RK.y.c0; have s1 := RK.y.c1; have s2 := RK.y.c2; have s3 := RK.y.c3; have s4 := RK.y.c4; have s5 := RK.y.c5; have f0 := RK.yf.f0; have f1 := RK.yf.f1; have f2 := RK.yf.f2; have f3 := RK.yf.f3; have f4 := RK.yf.f4; have f5 := RK.yf.f5))
              go_name_world W16 hW
              have R16 : Hid (Fi w W16 N k7 k9 t10 t12 X Z bp bq) := by rw [← hW]; exact RK.sety bq
              clear hW hK RK s0 s1 s2 s3 s4 s5 f0 f1 f2 f3 f4 f5 a0 a1 a2 a3 a4 a5 b0 b1 b2 b3 b4 b5 R15 RQ hJ cQ
              have a0 := R16.out.x.c0
              have a1 := R16.out.x.c1
              have a2 := R16.out.x.c2
              have a3 := R16.out.x.c3
              have a4 := R16.out.x.c4
              have a5 := R16.out.x.c5
              have b0 := R16.out.y.c0
              have b1 := R16.out.y.c1
              have b2 := R16.out.y.c2
              have b3 := R16.out.y.c3
              have b4 := R16.out.y.c4
              have b5 := R16.out.y.c5
              cases ip
              · clear u4
                go_wp2_with fail
                go_round
                case rel => exact ⟨2, _, _, by omega, rfl, R16⟩
                case measure => simp [intOf]
              · obtain ⟨rfl, rfl⟩ := HBR.out rfl
                go_wp2_with (go_at_call 15; refine (u4 _).mono ?_; rintro e w1 ⟨rfl, hb1⟩; have RZ := hide (R16.out.keep hb1); clear R16 hb1 a0 a1 a2 a3 a4 a5 b0 b1 b2 b3 b4 b5 u4; have R16 := RZ; clear RZ; have a0 := R16.out.x.c0; have a1 := R16.out.x.c1; have a2 := R16.out.x.c2; have a3 := R16.out.x.c3; have a4 := R16.out.x.c4; have a5 := R16.out.x.c5; have b0 := R16.out.y.c0; have b1 := R16.out.y.c1; have b2 := R16.out.y.c2; have b3 := R16.out.y.c3; have b4 := R16.out.y.c4; have b5 := R16.out.y.c5)
                go_round
                case rel => exact ⟨2, _, _, by omega, rfl, R16⟩
                case measure => simp [intOf]
            · go_wp2_with fail
              go_ret
              exact ⟨rfl, by rw [← HN.out]; exact RA.out.bel⟩
end Go.Proofs.YthiacdbjlkpfgaaDoor
