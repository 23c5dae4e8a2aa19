import Derived.Test.YtfndahdnbkmkkaaJz0
import Derived.Test.YtfndahdnbkmkkaaFk2
namespace Go.Proofs.Ytfndahdnbkmkkaa
open Go.RowKit
theorem join_pa (x y : V) (hx : x.p &&& 3 = x.p) (hy : y.p &&& 3 = y.p) : (joinV x y).p &&& 3 = (joinV x y).p := by
  have b2 : ∀ a b : BitVec 3, a &&& 3 = a → b &&& 3 = b → (a ||| b) &&& 3 = a ||| b := by decide
  exact b2 _ _ hx hy
theorem meet_pa (x y : V) (hx : x.p &&& 3 = x.p) : (meetV x y).1.p &&& 3 = (meetV x y).1.p := by
  have b2 : ∀ a b : BitVec 3, a &&& 3 = a → (a &&& b) &&& 3 = a &&& b := by decide
  unfold meetV
  by_cases h : mok x y = true
  · rw [if_pos h]; exact b2 _ _ hx
  · rw [if_neg h]; decide
set_option maxRecDepth 100000 in
set_option maxHeartbeats 32000000 in
theorem fjoins_walk (A B C : R) (w : World) (hA : i64 A.n ∧ i64 A.lo ∧ i64 A.hi) (hB : i64 B.n ∧ i64 B.lo ∧ i64 B.hi) (hC : i64 C.n ∧ i64 C.lo ∧ i64 C.hi) : Calls Try.prog 4 #[.agg #[.int .i64 A.s, .bool A.k, .int .i64 A.n, .int .i64 A.lo, .int .i64 A.hi, .int .i64 A.p], .agg #[.int .i64 B.s, .bool B.k, .int .i64 B.n, .int .i64 B.lo, .int .i64 B.hi, .int .i64 B.p], .agg #[.int .i64 C.s, .bool C.k, .int .i64 C.n, .int .i64 C.lo, .int .i64 C.hi, .int .i64 C.p]] w fun e w' => e = .returned (.bool true) ∧ Below w.heap.size w w' := by
  have cA := fun w => fix_V A.s A.k A.n A.lo A.hi A.p w
  have oX := fix_ok A.s A.k A.n A.lo A.hi A.p hA.1 hA.2.1 hA.2.2
  generalize fixV A.s A.k A.n A.lo A.hi A.p = X at *
  have cB := fun w => fix_V B.s B.k B.n B.lo B.hi B.p w
  have oY := fix_ok B.s B.k B.n B.lo B.hi B.p hB.1 hB.2.1 hB.2.2
  generalize fixV B.s B.k B.n B.lo B.hi B.p = Y at *
  have cC := fun w => fix_V C.s C.k C.n C.lo C.hi C.p w
  have oZ := fix_ok C.s C.k C.n C.lo C.hi C.p hC.1 hC.2.1 hC.2.2
  generalize fixV C.s C.k C.n C.lo C.hi C.p = Z at *
  clear hA hB hC
  have pX := oX.p3
  have pY := oY.p3
  have pZ := oZ.p3
  have pJ := join_pa X Y pX pY
  have pK := join_pa Y Z pY pZ
  have pM := meet_pa X Y pX
  have pQ := meet_pa Y Z pY
  have q0 := fun w => join_V X Y w pX pY
  have q1 := fun w => join_V Y X w pY pX
  have q2 := fun w => join_V (joinV X Y) Z w pJ pZ
  have q3 := fun w => join_V Y Z w pY pZ
  have q4 := fun w => join_V X (joinV Y Z) w pX pK
  have q5 := fun w => join_V X X w pX pX
  rw [join_comm Y X] at q1
  rw [← join_assoc X Y Z] at q4
  rw [join_idem X oX] at q5
  have t1 := fun w => within_V X (joinV X Y) w pX pJ
  have t2 := fun w => within_V Y (joinV X Y) w pY pJ
  rw [(join_in X Y).1] at t1
  rw [(join_in X Y).2] at t2
  have u1 := fun w => within_V X Z w pX pZ
  have u2 := fun w => within_V Y Z w pY pZ
  have u5 := fun w => within_V (joinV X Y) Z w pJ pZ
  have F1 := hide (join_lub X Y Z)
  have m1 := fun w => meet_V X Y w pX pY
  have m2 := fun w => meet_V Y X w pY pX
  rw [meet_comm Y X] at m2
  have u6 := fun w => within_V (meetV X Y).1 X w pM pX
  have u7 := fun w => within_V (meetV X Y).1 Y w pM pY
  have F2 := hide (meet_in X Y)
  have u3 := fun w => within_V Z X w pZ pX
  have u4 := fun w => within_V Z Y w pZ pY
  have u8 := fun w => within_V Z (meetV X Y).1 w pZ pM
  have F3 := hide (meet_glb X Y Z oZ)
  have m3 := fun w => meet_V (meetV X Y).1 Z w pM pZ
  have m4 := fun w => meet_V Y Z w pY pZ
  have m5 := fun w => meet_V X (meetV Y Z).1 w pX pQ
  have F4 := hide (meet_three X Y Z oX oY oZ)
  clear pX pY pZ pJ pK pM pQ oX oY oZ
  generalize joinV (joinV X Y) Z = L at *
  generalize joinV X Y = J at *
  generalize joinV Y Z = K at *
  generalize meetV (meetV X Y).1 Z = MP at *
  generalize meetV X (meetV Y Z).1 = MR at *
  generalize meetV X Y = M at *
  generalize meetV Y Z = MQ at *
  obtain ⟨m, ok⟩ := M
  obtain ⟨p, ip⟩ := MP
  obtain ⟨q, iq⟩ := MQ
  obtain ⟨r, ir⟩ := MR
  dsimp only at m1 m2 m3 m4 m5 u6 u7 u8 F2 F3 F4
  generalize withinV X Z = b1 at *
  generalize withinV Y Z = b2 at *
  generalize withinV J Z = b5 at *
  generalize withinV m X = b6 at *
  generalize withinV m Y = b7 at *
  generalize withinV Z X = b3 at *
  generalize withinV Z Y = b4 at *
  generalize withinV Z m = b8 at *
  go_enter Try.func4, Try.ntmps4
  go_upto_region 1 with fail
  go_name_world W hW
  have hS : jzS w.heap.size A B C w W := by
    rw [← hW]
    exact ⟨((Br.new w A.s A.k A.n A.lo A.hi A.p 27).keep ((Below.refl _ _).alloc (Nat.le_refl _) _)).keep ((Below.refl _ _).alloc (Nat.le_refl _) _), ((by simpa using Br.new (w.alloc (.cells #[.int .i64 A.s, .bool A.k, .int .i64 A.n, .int .i64 A.lo, .int .i64 A.hi, .int .i64 A.p] 27)) B.s B.k B.n B.lo B.hi B.p 27 : Br ((w.alloc (.cells #[.int .i64 A.s, .bool A.k, .int .i64 A.n, .int .i64 A.lo, .int .i64 A.hi, .int .i64 A.p] 27)).alloc (.cells #[.int .i64 B.s, .bool B.k, .int .i64 B.n, .int .i64 B.lo, .int .i64 B.hi, .int .i64 B.p] 27)) (w.heap.size + 1) B.s B.k B.n B.lo B.hi B.p)).keep ((Below.refl _ _).alloc (Nat.le_refl _) _), (by simpa using Br.new ((w.alloc (.cells #[.int .i64 A.s, .bool A.k, .int .i64 A.n, .int .i64 A.lo, .int .i64 A.hi, .int .i64 A.p] 27)).alloc (.cells #[.int .i64 B.s, .bool B.k, .int .i64 B.n, .int .i64 B.lo, .int .i64 B.hi, .int .i64 B.p] 27)) C.s C.k C.n C.lo C.hi C.p 27), (by repeat (first | exact Below.refl _ _ | (refine Below.drew ?_) | (refine below_drewN ?_ _) | (refine Below.setCell ?_ (by first | omega | (simp; done) | (simp; omega)) _) | (refine Below.alloc ?_ (by first | omega | (simp; done) | (simp; omega)) _) | (refine Below.trans ?_ (Below.mono (by assumption) (by first | omega | (simp; done) | (simp; omega))))))⟩
  clear hW
  obtain ⟨N, hN⟩ : ∃ N, N = w.heap.size := ⟨_, rfl⟩
  rw [← hN] at hS ⊢
  have HN : Hid (N = w.heap.size) := hN
  clear hN
  refine jz_region _ (fun _ _ d _ _ h => by cases d <;> exact h) A B C X Y Z N w cA cB cC ?_ W hS
  clear cA cB cC hS W
  intro v k7 k8 k9 K7 K8 K9 hb hl
  dsimp only [jzAct]
  have H0 : Hid (Br v k7 (up X.s) X.k X.n X.lo X.hi (up X.p) ∧ Br v k8 (up Y.s) Y.k Y.n Y.lo Y.hi (up Y.p) ∧ Br v k9 (up Z.s) Z.k Z.n Z.lo Z.hi (up Z.p) ∧ Below N w v ∧ N ≤ v.heap.size) := ⟨K7, K8, K9, hb, Nat.le_of_lt hl⟩
  clear K7 K8 K9 hb hl
  have zk7_0 := H0.out.1.c0
  have zk7_1 := H0.out.1.c1
  have zk7_2 := H0.out.1.c2
  have zk7_3 := H0.out.1.c3
  have zk7_4 := H0.out.1.c4
  have zk7_5 := H0.out.1.c5
  have zk8_0 := H0.out.2.1.c0
  have zk8_1 := H0.out.2.1.c1
  have zk8_2 := H0.out.2.1.c2
  have zk8_3 := H0.out.2.1.c3
  have zk8_4 := H0.out.2.1.c4
  have zk8_5 := H0.out.2.1.c5
  go_upto_region 3 with (go_at_call 20; refine (q0 _).mono ?_; rintro e wK ⟨rfl, hK⟩)
  go_name_world W3 hW
  have H2 : Hid (Br W3 k7 (up X.s) X.k X.n X.lo X.hi (up X.p) ∧ Br W3 k8 (up Y.s) Y.k Y.n Y.lo Y.hi (up Y.p) ∧ Br W3 k9 (up Z.s) Z.k Z.n Z.lo Z.hi (up Z.p) ∧ Br W3 wK.heap.size (up J.s) J.k J.n J.lo J.hi (up J.p) ∧ Below N w W3 ∧ N ≤ W3.heap.size) := by
    rw [← hW]
    have u := H0.out.2.2.2.1.trans (hK.mono H0.out.2.2.2.2)
    have l : N ≤ wK.heap.size := Nat.le_trans H0.out.2.2.2.2 hK.size
    exact ⟨(H0.out.1.keep hK).keep ((Below.refl _ _).alloc (Nat.le_refl _) _), (H0.out.2.1.keep hK).keep ((Below.refl _ _).alloc (Nat.le_refl _) _), (H0.out.2.2.1.keep hK).keep ((Below.refl _ _).alloc (Nat.le_refl _) _), Br.new _ _ _ _ _ _ _ _, u.alloc l _, by simp; omega⟩
  clear hW hK H0 zk7_0 zk7_1 zk7_2 zk7_3 zk7_4 zk7_5 zk8_0 zk8_1 zk8_2 zk8_3 zk8_4 zk8_5 q0
  generalize wK.heap.size = k10 at *
  have HCL : Hid (∀ a b : World, (a.cell? ⟨k7, 0, none⟩ = some (.int .i64 (up X.s)) ∧ a.cell? ⟨k7, 1, none⟩ = some (.bool X.k) ∧ a.cell? ⟨k7, 2, none⟩ = some (.int .i64 X.n) ∧ a.cell? ⟨k7, 3, none⟩ = some (.int .i64 X.lo) ∧ a.cell? ⟨k7, 4, none⟩ = some (.int .i64 X.hi) ∧ a.cell? ⟨k7, 5, none⟩ = some (.int .i64 (up X.p)) ∧ a.cell? ⟨k8, 0, none⟩ = some (.int .i64 (up Y.s)) ∧ a.cell? ⟨k8, 1, none⟩ = some (.bool Y.k) ∧ a.cell? ⟨k8, 2, none⟩ = some (.int .i64 Y.n) ∧ a.cell? ⟨k8, 3, none⟩ = some (.int .i64 Y.lo) ∧ a.cell? ⟨k8, 4, none⟩ = some (.int .i64 Y.hi) ∧ a.cell? ⟨k8, 5, none⟩ = some (.int .i64 (up Y.p)) ∧ a.cell? ⟨k9, 0, none⟩ = some (.int .i64 (up Z.s)) ∧ a.cell? ⟨k9, 1, none⟩ = some (.bool Z.k) ∧ a.cell? ⟨k9, 2, none⟩ = some (.int .i64 Z.n) ∧ a.cell? ⟨k9, 3, none⟩ = some (.int .i64 Z.lo) ∧ a.cell? ⟨k9, 4, none⟩ = some (.int .i64 Z.hi) ∧ a.cell? ⟨k9, 5, none⟩ = some (.int .i64 (up Z.p)) ∧ a.cell? ⟨k10, 0, none⟩ = some (.int .i64 (up J.s)) ∧ a.cell? ⟨k10, 1, none⟩ = some (.bool J.k) ∧ a.cell? ⟨k10, 2, none⟩ = some (.int .i64 J.n) ∧ a.cell? ⟨k10, 3, none⟩ = some (.int .i64 J.lo) ∧ a.cell? ⟨k10, 4, none⟩ = some (.int .i64 J.hi) ∧ a.cell? ⟨k10, 5, none⟩ = some (.int .i64 (up J.p)) ∧ Hid (Br a k7 (up X.s) X.k X.n X.lo X.hi (up X.p) ∧ Br a k8 (up Y.s) Y.k Y.n Y.lo Y.hi (up Y.p) ∧ Br a k9 (up Z.s) Z.k Z.n Z.lo Z.hi (up Z.p) ∧ Br a k10 (up J.s) J.k J.n J.lo J.hi (up J.p) ∧ (Below N w a ∧ N ≤ a.heap.size))) → Below a.heap.size a b → (b.cell? ⟨k7, 0, none⟩ = some (.int .i64 (up X.s)) ∧ b.cell? ⟨k7, 1, none⟩ = some (.bool X.k) ∧ b.cell? ⟨k7, 2, none⟩ = some (.int .i64 X.n) ∧ b.cell? ⟨k7, 3, none⟩ = some (.int .i64 X.lo) ∧ b.cell? ⟨k7, 4, none⟩ = some (.int .i64 X.hi) ∧ b.cell? ⟨k7, 5, none⟩ = some (.int .i64 (up X.p)) ∧ b.cell? ⟨k8, 0, none⟩ = some (.int .i64 (up Y.s)) ∧ b.cell? ⟨k8, 1, none⟩ = some (.bool Y.k) ∧ b.cell? ⟨k8, 2, none⟩ = some (.int .i64 Y.n) ∧ b.cell? ⟨k8, 3, none⟩ = some (.int .i64 Y.lo) ∧ b.cell? ⟨k8, 4, none⟩ = some (.int .i64 Y.hi) ∧ b.cell? ⟨k8, 5, none⟩ = some (.int .i64 (up Y.p)) ∧ b.cell? ⟨k9, 0, none⟩ = some (.int .i64 (up Z.s)) ∧ b.cell? ⟨k9, 1, none⟩ = some (.bool Z.k) ∧ b.cell? ⟨k9, 2, none⟩ = some (.int .i64 Z.n) ∧ b.cell? ⟨k9, 3, none⟩ = some (.int .i64 Z.lo) ∧ b.cell? ⟨k9, 4, none⟩ = some (.int .i64 Z.hi) ∧ b.cell? ⟨k9, 5, none⟩ = some (.int .i64 (up Z.p)) ∧ b.cell? ⟨k10, 0, none⟩ = some (.int .i64 (up J.s)) ∧ b.cell? ⟨k10, 1, none⟩ = some (.bool J.k) ∧ b.cell? ⟨k10, 2, none⟩ = some (.int .i64 J.n) ∧ b.cell? ⟨k10, 3, none⟩ = some (.int .i64 J.lo) ∧ b.cell? ⟨k10, 4, none⟩ = some (.int .i64 J.hi) ∧ b.cell? ⟨k10, 5, none⟩ = some (.int .i64 (up J.p)) ∧ Hid (Br b k7 (up X.s) X.k X.n X.lo X.hi (up X.p) ∧ Br b k8 (up Y.s) Y.k Y.n Y.lo Y.hi (up Y.p) ∧ Br b k9 (up Z.s) Z.k Z.n Z.lo Z.hi (up Z.p) ∧ Br b k10 (up J.s) J.k J.n J.lo J.hi (up J.p) ∧ (Below N w b ∧ N ≤ b.heap.size)))) := fun a b h hb => by
    have y9 := (h.2.2.2.2.2.2.2.2.2.2.2.2.2.2.2.2.2.2.2.2.2.2.2.2).out
    have z9 : Br b k7 (up X.s) X.k X.n X.lo X.hi (up X.p) ∧ Br b k8 (up Y.s) Y.k Y.n Y.lo Y.hi (up Y.p) ∧ Br b k9 (up Z.s) Z.k Z.n Z.lo Z.hi (up Z.p) ∧ Br b k10 (up J.s) J.k J.n J.lo J.hi (up J.p) ∧ (Below N w b ∧ N ≤ b.heap.size) := ⟨y9.1.keep hb, y9.2.1.keep hb, y9.2.2.1.keep hb, y9.2.2.2.1.keep hb, ⟨y9.2.2.2.2.1.trans (hb.mono y9.2.2.2.2.2), Nat.le_trans y9.2.2.2.2.2 hb.size⟩⟩
    exact ⟨z9.1.c0, z9.1.c1, z9.1.c2, z9.1.c3, z9.1.c4, z9.1.c5, z9.2.1.c0, z9.2.1.c1, z9.2.1.c2, z9.2.1.c3, z9.2.1.c4, z9.2.1.c5, z9.2.2.1.c0, z9.2.2.1.c1, z9.2.2.1.c2, z9.2.2.1.c3, z9.2.2.1.c4, z9.2.2.1.c5, z9.2.2.2.1.c0, z9.2.2.2.1.c1, z9.2.2.2.1.c2, z9.2.2.2.1.c3, z9.2.2.2.1.c4, z9.2.2.2.1.c5, z9⟩
  have z0 : Br W3 k7 (up X.s) X.k X.n X.lo X.hi (up X.p) ∧ Br W3 k8 (up Y.s) Y.k Y.n Y.lo Y.hi (up Y.p) ∧ Br W3 k9 (up Z.s) Z.k Z.n Z.lo Z.hi (up Z.p) ∧ Br W3 k10 (up J.s) J.k J.n J.lo J.hi (up J.p) ∧ (Below N w W3 ∧ N ≤ W3.heap.size) := ⟨H2.out.1, H2.out.2.1, H2.out.2.2.1, H2.out.2.2.2.1, H2.out.2.2.2.2.1, H2.out.2.2.2.2.2⟩
  have hS0 : W3.cell? ⟨k7, 0, none⟩ = some (.int .i64 (up X.s)) ∧ W3.cell? ⟨k7, 1, none⟩ = some (.bool X.k) ∧ W3.cell? ⟨k7, 2, none⟩ = some (.int .i64 X.n) ∧ W3.cell? ⟨k7, 3, none⟩ = some (.int .i64 X.lo) ∧ W3.cell? ⟨k7, 4, none⟩ = some (.int .i64 X.hi) ∧ W3.cell? ⟨k7, 5, none⟩ = some (.int .i64 (up X.p)) ∧ W3.cell? ⟨k8, 0, none⟩ = some (.int .i64 (up Y.s)) ∧ W3.cell? ⟨k8, 1, none⟩ = some (.bool Y.k) ∧ W3.cell? ⟨k8, 2, none⟩ = some (.int .i64 Y.n) ∧ W3.cell? ⟨k8, 3, none⟩ = some (.int .i64 Y.lo) ∧ W3.cell? ⟨k8, 4, none⟩ = some (.int .i64 Y.hi) ∧ W3.cell? ⟨k8, 5, none⟩ = some (.int .i64 (up Y.p)) ∧ W3.cell? ⟨k9, 0, none⟩ = some (.int .i64 (up Z.s)) ∧ W3.cell? ⟨k9, 1, none⟩ = some (.bool Z.k) ∧ W3.cell? ⟨k9, 2, none⟩ = some (.int .i64 Z.n) ∧ W3.cell? ⟨k9, 3, none⟩ = some (.int .i64 Z.lo) ∧ W3.cell? ⟨k9, 4, none⟩ = some (.int .i64 Z.hi) ∧ W3.cell? ⟨k9, 5, none⟩ = some (.int .i64 (up Z.p)) ∧ W3.cell? ⟨k10, 0, none⟩ = some (.int .i64 (up J.s)) ∧ W3.cell? ⟨k10, 1, none⟩ = some (.bool J.k) ∧ W3.cell? ⟨k10, 2, none⟩ = some (.int .i64 J.n) ∧ W3.cell? ⟨k10, 3, none⟩ = some (.int .i64 J.lo) ∧ W3.cell? ⟨k10, 4, none⟩ = some (.int .i64 J.hi) ∧ W3.cell? ⟨k10, 5, none⟩ = some (.int .i64 (up J.p)) ∧ Hid (Br W3 k7 (up X.s) X.k X.n X.lo X.hi (up X.p) ∧ Br W3 k8 (up Y.s) Y.k Y.n Y.lo Y.hi (up Y.p) ∧ Br W3 k9 (up Z.s) Z.k Z.n Z.lo Z.hi (up Z.p) ∧ Br W3 k10 (up J.s) J.k J.n J.lo J.hi (up J.p) ∧ (Below N w W3 ∧ N ≤ W3.heap.size)) := ⟨z0.1.c0, z0.1.c1, z0.1.c2, z0.1.c3, z0.1.c4, z0.1.c5, z0.2.1.c0, z0.2.1.c1, z0.2.1.c2, z0.2.1.c3, z0.2.1.c4, z0.2.1.c5, z0.2.2.1.c0, z0.2.2.1.c1, z0.2.2.1.c2, z0.2.2.1.c3, z0.2.2.1.c4, z0.2.2.1.c5, z0.2.2.2.1.c0, z0.2.2.2.1.c1, z0.2.2.2.1.c2, z0.2.2.2.1.c3, z0.2.2.2.1.c4, z0.2.2.2.1.c5, z0⟩
  clear z0 H2
  refine wp_region_held_drew (S := fun w' => w'.cell? ⟨k7, 0, none⟩ = some (.int .i64 (up X.s)) ∧ w'.cell? ⟨k7, 1, none⟩ = some (.bool X.k) ∧ w'.cell? ⟨k7, 2, none⟩ = some (.int .i64 X.n) ∧ w'.cell? ⟨k7, 3, none⟩ = some (.int .i64 X.lo) ∧ w'.cell? ⟨k7, 4, none⟩ = some (.int .i64 X.hi) ∧ w'.cell? ⟨k7, 5, none⟩ = some (.int .i64 (up X.p)) ∧ w'.cell? ⟨k8, 0, none⟩ = some (.int .i64 (up Y.s)) ∧ w'.cell? ⟨k8, 1, none⟩ = some (.bool Y.k) ∧ w'.cell? ⟨k8, 2, none⟩ = some (.int .i64 Y.n) ∧ w'.cell? ⟨k8, 3, none⟩ = some (.int .i64 Y.lo) ∧ w'.cell? ⟨k8, 4, none⟩ = some (.int .i64 Y.hi) ∧ w'.cell? ⟨k8, 5, none⟩ = some (.int .i64 (up Y.p)) ∧ w'.cell? ⟨k9, 0, none⟩ = some (.int .i64 (up Z.s)) ∧ w'.cell? ⟨k9, 1, none⟩ = some (.bool Z.k) ∧ w'.cell? ⟨k9, 2, none⟩ = some (.int .i64 Z.n) ∧ w'.cell? ⟨k9, 3, none⟩ = some (.int .i64 Z.lo) ∧ w'.cell? ⟨k9, 4, none⟩ = some (.int .i64 Z.hi) ∧ w'.cell? ⟨k9, 5, none⟩ = some (.int .i64 (up Z.p)) ∧ w'.cell? ⟨k10, 0, none⟩ = some (.int .i64 (up J.s)) ∧ w'.cell? ⟨k10, 1, none⟩ = some (.bool J.k) ∧ w'.cell? ⟨k10, 2, none⟩ = some (.int .i64 J.n) ∧ w'.cell? ⟨k10, 3, none⟩ = some (.int .i64 J.lo) ∧ w'.cell? ⟨k10, 4, none⟩ = some (.int .i64 J.hi) ∧ w'.cell? ⟨k10, 5, none⟩ = some (.int .i64 (up J.p)) ∧ Hid (Br w' k7 (up X.s) X.k X.n X.lo X.hi (up X.p) ∧ Br w' k8 (up Y.s) Y.k Y.n Y.lo Y.hi (up Y.p) ∧ Br w' k9 (up Z.s) Z.k Z.n Z.lo Z.hi (up Z.p) ∧ Br w' k10 (up J.s) J.k J.n J.lo J.hi (up J.p) ∧ (Below N w w' ∧ N ≤ w'.heap.size))) (by kernel_rfl) (HCL.out _ _ hS0 ((Below.refl _ _).drew)) (fun hHeld => ?_)
  refine wpAnyH_ready (rs := [0]) (by kernel_rfl) (by simp) ?_
  refine AllReadyH.cons (o := ({ dst := some 33, op := Op.call { callee := Callee.value (Operand.func 12), args := #[], argTypes := #[] }, type := 4, pos := "law.go:110", after := #[], guard := none } : Oper)) rfl (fun K hK => ?_) AllReadyH.nil
  go_simp
  go_at_call 12
  refine (lift (told_any _) (by assumption) HCL.out).mono ?_
  rintro e v1 ⟨rfl, g1⟩
  clear hHeld
  refine hK.out _ _ g1 (fun hHeld => ?_)
  clear hK K
  refine wpAnyH_take (i := 1) (oi := ({ dst := some 34, op := Op.unOp UnOp.not 4 (Operand.tmp 33), type := 4, pos := "law.go:110", after := #[{ on := 0, ground := Ground.data }], guard := none } : Oper)) (v := ?_) rfl (by kernel_rfl) (by kernel_rfl) (by kernel_rfl) (fun _ _ _ h => h) (Or.inl ⟨by rfl, ?_⟩) (by assumption) ?_
  rotate_left
  · (intro wz hSw; (try dsimp only at hSw); go_simp; try with_reducible rfl)
  simp only [Act.put, List.setIfInBounds_toArray, List.set_cons_zero, List.set_cons_succ]
  refine wpAnyH_take (i := 2) (oi := ({ dst := some 35, op := Op.move (Operand.tmp 34), type := 4, pos := "law.go:110", after := #[{ on := 1, ground := Ground.data }, { on := 0, ground := Ground.chain }], guard := none } : Oper)) (v := ?_) rfl (by kernel_rfl) (by kernel_rfl) (by kernel_rfl) (fun _ _ _ h => h) (Or.inl ⟨by rfl, ?_⟩) (by assumption) ?_
  rotate_left
  · (intro wz hSw; (try dsimp only at hSw); go_simp; try with_reducible rfl)
  simp only [Act.put, List.setIfInBounds_toArray, List.set_cons_zero, List.set_cons_succ]
  refine wpAnyH_take (i := 3) (oi := ({ dst := some 36, op := Op.load 32 (Operand.tmp 10), type := 32, pos := "law.go:110", after := #[{ on := 2, ground := Ground.guard }], guard := some (2, false) } : Oper)) (v := ?_) rfl (by kernel_rfl) (by kernel_rfl) (by kernel_rfl) (fun _ _ _ h => h) (Or.inl ⟨by rfl, ?_⟩) (by assumption) ?_
  rotate_left
  · (intro wz hSw; (try dsimp only at hSw); go_simp; try with_reducible rfl)
  simp only [Act.put, List.setIfInBounds_toArray, List.set_cons_zero, List.set_cons_succ]
  refine wpAnyH_take (i := 4) (oi := ({ dst := some 37, op := Op.load 32 (Operand.tmp 8), type := 32, pos := "law.go:110", after := #[{ on := 2, ground := Ground.guard }], guard := some (2, false) } : Oper)) (v := ?_) rfl (by kernel_rfl) (by kernel_rfl) (by kernel_rfl) (fun _ _ _ h => h) (Or.inl ⟨by rfl, ?_⟩) (by assumption) ?_
  rotate_left
  · (intro wz hSw; (try dsimp only at hSw); go_simp; try with_reducible rfl)
  simp only [Act.put, List.setIfInBounds_toArray, List.set_cons_zero, List.set_cons_succ]
  refine wpAnyH_take (i := 5) (oi := ({ dst := some 38, op := Op.load 32 (Operand.tmp 7), type := 32, pos := "law.go:110", after := #[{ on := 2, ground := Ground.guard }], guard := some (2, false) } : Oper)) (v := ?_) rfl (by kernel_rfl) (by kernel_rfl) (by kernel_rfl) (fun _ _ _ h => h) (Or.inl ⟨by rfl, ?_⟩) (by assumption) ?_
  rotate_left
  · (intro wz hSw; (try dsimp only at hSw); go_simp; try with_reducible rfl)
  simp only [Act.put, List.setIfInBounds_toArray, List.set_cons_zero, List.set_cons_succ]
  refine wpAnyH_ready (rs := [6]) (by kernel_rfl) (by simp) ?_
  refine AllReadyH.cons (o := ({ dst := some 39, op := Op.call { callee := Callee.value (Operand.func 20), args := #[Operand.tmp 37, Operand.tmp 38], argTypes := #[32, 32] }, type := 32, pos := "law.go:110", after := #[{ on := 4, ground := Ground.data }, { on := 5, ground := Ground.data }, { on := 2, ground := Ground.chain }, { on := 2, ground := Ground.guard }], guard := some (2, false) } : Oper)) rfl (fun K hK => ?_) AllReadyH.nil
  go_simp
  go_at_call 20
  refine (lift (q1 _) (by assumption) HCL.out).mono ?_
  rintro e v2 ⟨rfl, g2⟩
  clear hHeld g1
  refine hK.out _ _ g2 (fun hHeld => ?_)
  clear hK K
  refine wpAnyH_take (i := 7) (oi := ({ dst := some 40, op := Op.binOp BinOp.neq 32 (Operand.tmp 36) (Operand.tmp 39) 32, type := 4, pos := "law.go:110", after := #[{ on := 3, ground := Ground.data }, { on := 6, ground := Ground.data }, { on := 2, ground := Ground.guard }], guard := some (2, false) } : Oper)) (v := ?_) rfl (by kernel_rfl) (by kernel_rfl) (by kernel_rfl) (fun _ _ _ h => h) (Or.inl ⟨by rfl, ?_⟩) (by assumption) ?_
  rotate_left
  · (intro wz hSw; (try dsimp only at hSw); go_simp; try with_reducible rfl)
  simp only [Act.put, List.setIfInBounds_toArray, List.set_cons_zero, List.set_cons_succ]
  refine wpAnyH_take (i := 8) (oi := ({ dst := some 41, op := Op.pick (Operand.tmp 35) (Operand.const (Value.bool true)) (Operand.tmp 40), type := 4, pos := "law.go:110", after := #[{ on := 2, ground := Ground.data }, { on := 7, ground := Ground.data }], guard := none } : Oper)) (v := ?_) rfl (by kernel_rfl) (by kernel_rfl) (by kernel_rfl) (fun _ _ _ h => h) (Or.inl ⟨by rfl, ?_⟩) (by assumption) ?_
  rotate_left
  · (intro wz hSw; (try dsimp only at hSw); go_simp; try with_reducible rfl)
  simp only [Act.put, List.setIfInBounds_toArray, List.set_cons_zero, List.set_cons_succ]
  refine wpAnyH_take (i := 9) (oi := ({ dst := some 42, op := Op.move (Operand.tmp 41), type := 4, pos := "law.go:110", after := #[{ on := 8, ground := Ground.data }, { on := 6, ground := Ground.chain }], guard := none } : Oper)) (v := ?_) rfl (by kernel_rfl) (by kernel_rfl) (by kernel_rfl) (fun _ _ _ h => h) (Or.inl ⟨by rfl, ?_⟩) (by assumption) ?_
  rotate_left
  · (intro wz hSw; (try dsimp only at hSw); go_simp; try with_reducible rfl)
  simp only [Act.put, List.setIfInBounds_toArray, List.set_cons_zero, List.set_cons_succ]
  refine wpAnyH_take (i := 10) (oi := ({ dst := some 43, op := Op.load 32 (Operand.tmp 10), type := 32, pos := "law.go:110", after := #[{ on := 9, ground := Ground.guard }], guard := some (9, false) } : Oper)) (v := ?_) rfl (by kernel_rfl) (by kernel_rfl) (by kernel_rfl) (fun _ _ _ h => h) (Or.inl ⟨by rfl, ?_⟩) (by assumption) ?_
  rotate_left
  · (intro wz hSw; (try dsimp only at hSw); go_simp; try with_reducible rfl)
  simp only [Act.put, List.setIfInBounds_toArray, List.set_cons_zero, List.set_cons_succ]
  refine wpAnyH_take (i := 11) (oi := ({ dst := some 44, op := Op.load 32 (Operand.tmp 9), type := 32, pos := "law.go:110", after := #[{ on := 9, ground := Ground.guard }], guard := some (9, false) } : Oper)) (v := ?_) rfl (by kernel_rfl) (by kernel_rfl) (by kernel_rfl) (fun _ _ _ h => h) (Or.inl ⟨by rfl, ?_⟩) (by assumption) ?_
  rotate_left
  · (intro wz hSw; (try dsimp only at hSw); go_simp; try with_reducible rfl)
  simp only [Act.put, List.setIfInBounds_toArray, List.set_cons_zero, List.set_cons_succ]
  refine wpAnyH_take (i := 13) (oi := ({ dst := some 46, op := Op.load 32 (Operand.tmp 7), type := 32, pos := "law.go:110", after := #[{ on := 9, ground := Ground.guard }], guard := some (9, false) } : Oper)) (v := ?_) rfl (by kernel_rfl) (by kernel_rfl) (by kernel_rfl) (fun _ _ _ h => h) (Or.inl ⟨by rfl, ?_⟩) (by assumption) ?_
  rotate_left
  · (intro wz hSw; (try dsimp only at hSw); go_simp; try with_reducible rfl)
  simp only [Act.put, List.setIfInBounds_toArray, List.set_cons_zero, List.set_cons_succ]
  refine wpAnyH_take (i := 14) (oi := ({ dst := some 47, op := Op.load 32 (Operand.tmp 8), type := 32, pos := "law.go:110", after := #[{ on := 9, ground := Ground.guard }], guard := some (9, false) } : Oper)) (v := ?_) rfl (by kernel_rfl) (by kernel_rfl) (by kernel_rfl) (fun _ _ _ h => h) (Or.inl ⟨by rfl, ?_⟩) (by assumption) ?_
  rotate_left
  · (intro wz hSw; (try dsimp only at hSw); go_simp; try with_reducible rfl)
  simp only [Act.put, List.setIfInBounds_toArray, List.set_cons_zero, List.set_cons_succ]
  refine wpAnyH_take (i := 15) (oi := ({ dst := some 48, op := Op.load 32 (Operand.tmp 9), type := 32, pos := "law.go:110", after := #[{ on := 9, ground := Ground.guard }], guard := some (9, false) } : Oper)) (v := ?_) rfl (by kernel_rfl) (by kernel_rfl) (by kernel_rfl) (fun _ _ _ h => h) (Or.inl ⟨by rfl, ?_⟩) (by assumption) ?_
  rotate_left
  · (intro wz hSw; (try dsimp only at hSw); go_simp; try with_reducible rfl)
  simp only [Act.put, List.setIfInBounds_toArray, List.set_cons_zero, List.set_cons_succ]
  refine wpAnyH_ready (rs := [12]) (by kernel_rfl) (by simp) ?_
  refine AllReadyH.cons (o := ({ dst := some 45, op := Op.call { callee := Callee.value (Operand.func 20), args := #[Operand.tmp 43, Operand.tmp 44], argTypes := #[32, 32] }, type := 32, pos := "law.go:110", after := #[{ on := 10, ground := Ground.data }, { on := 11, ground := Ground.data }, { on := 9, ground := Ground.chain }, { on := 9, ground := Ground.guard }], guard := some (9, false) } : Oper)) rfl (fun K hK => ?_) AllReadyH.nil
  go_simp
  go_at_call 20
  refine (lift (q2 _) (by assumption) HCL.out).mono ?_
  rintro e v3 ⟨rfl, g3⟩
  clear hHeld g2
  refine hK.out _ _ g3 (fun hHeld => ?_)
  clear hK K
  refine wpAnyH_ready (rs := [16]) (by kernel_rfl) (by simp) ?_
  refine AllReadyH.cons (o := ({ dst := some 49, op := Op.call { callee := Callee.value (Operand.func 20), args := #[Operand.tmp 47, Operand.tmp 48], argTypes := #[32, 32] }, type := 32, pos := "law.go:110", after := #[{ on := 14, ground := Ground.data }, { on := 15, ground := Ground.data }, { on := 12, ground := Ground.chain }, { on := 9, ground := Ground.guard }], guard := some (9, false) } : Oper)) rfl (fun K hK => ?_) AllReadyH.nil
  go_simp
  go_at_call 20
  refine (lift (q3 _) (by assumption) HCL.out).mono ?_
  rintro e v4 ⟨rfl, g4⟩
  clear hHeld g3
  refine hK.out _ _ g4 (fun hHeld => ?_)
  clear hK K
  refine wpAnyH_ready (rs := [17]) (by kernel_rfl) (by simp) ?_
  refine AllReadyH.cons (o := ({ dst := some 50, op := Op.call { callee := Callee.value (Operand.func 20), args := #[Operand.tmp 46, Operand.tmp 49], argTypes := #[32, 32] }, type := 32, pos := "law.go:110", after := #[{ on := 13, ground := Ground.data }, { on := 16, ground := Ground.data }, { on := 16, ground := Ground.chain }, { on := 9, ground := Ground.guard }], guard := some (9, false) } : Oper)) rfl (fun K hK => ?_) AllReadyH.nil
  go_simp
  go_at_call 20
  refine (lift (q4 _) (by assumption) HCL.out).mono ?_
  rintro e v5 ⟨rfl, g5⟩
  clear hHeld g4
  refine hK.out _ _ g5 (fun hHeld => ?_)
  clear hK K
  refine wpAnyH_take (i := 18) (oi := ({ dst := some 51, op := Op.binOp BinOp.neq 32 (Operand.tmp 45) (Operand.tmp 50) 32, type := 4, pos := "law.go:110", after := #[{ on := 12, ground := Ground.data }, { on := 17, ground := Ground.data }, { on := 9, ground := Ground.guard }], guard := some (9, false) } : Oper)) (v := ?_) rfl (by kernel_rfl) (by kernel_rfl) (by kernel_rfl) (fun _ _ _ h => h) (Or.inl ⟨by rfl, ?_⟩) (by assumption) ?_
  rotate_left
  · (intro wz hSw; (try dsimp only at hSw); go_simp; try with_reducible rfl)
  simp only [Act.put, List.setIfInBounds_toArray, List.set_cons_zero, List.set_cons_succ]
  refine wpAnyH_take (i := 19) (oi := ({ dst := some 52, op := Op.pick (Operand.tmp 42) (Operand.const (Value.bool true)) (Operand.tmp 51), type := 4, pos := "law.go:110", after := #[{ on := 9, ground := Ground.data }, { on := 18, ground := Ground.data }], guard := none } : Oper)) (v := ?_) rfl (by kernel_rfl) (by kernel_rfl) (by kernel_rfl) (fun _ _ _ h => h) (Or.inl ⟨by rfl, ?_⟩) (by assumption) ?_
  rotate_left
  · (intro wz hSw; (try dsimp only at hSw); go_simp; try with_reducible rfl)
  simp only [Act.put, List.setIfInBounds_toArray, List.set_cons_zero, List.set_cons_succ]
  refine wpAnyH_take (i := 20) (oi := ({ dst := some 53, op := Op.move (Operand.tmp 52), type := 4, pos := "law.go:110", after := #[{ on := 19, ground := Ground.data }, { on := 17, ground := Ground.chain }], guard := none } : Oper)) (v := ?_) rfl (by kernel_rfl) (by kernel_rfl) (by kernel_rfl) (fun _ _ _ h => h) (Or.inl ⟨by rfl, ?_⟩) (by assumption) ?_
  rotate_left
  · (intro wz hSw; (try dsimp only at hSw); go_simp; try with_reducible rfl)
  simp only [Act.put, List.setIfInBounds_toArray, List.set_cons_zero, List.set_cons_succ]
  refine wpAnyH_take (i := 21) (oi := ({ dst := some 54, op := Op.load 32 (Operand.tmp 7), type := 32, pos := "law.go:110", after := #[{ on := 20, ground := Ground.guard }], guard := some (20, false) } : Oper)) (v := ?_) rfl (by kernel_rfl) (by kernel_rfl) (by kernel_rfl) (fun _ _ _ h => h) (Or.inl ⟨by rfl, ?_⟩) (by assumption) ?_
  rotate_left
  · (intro wz hSw; (try dsimp only at hSw); go_simp; try with_reducible rfl)
  simp only [Act.put, List.setIfInBounds_toArray, List.set_cons_zero, List.set_cons_succ]
  refine wpAnyH_take (i := 22) (oi := ({ dst := some 55, op := Op.load 32 (Operand.tmp 7), type := 32, pos := "law.go:110", after := #[{ on := 20, ground := Ground.guard }], guard := some (20, false) } : Oper)) (v := ?_) rfl (by kernel_rfl) (by kernel_rfl) (by kernel_rfl) (fun _ _ _ h => h) (Or.inl ⟨by rfl, ?_⟩) (by assumption) ?_
  rotate_left
  · (intro wz hSw; (try dsimp only at hSw); go_simp; try with_reducible rfl)
  simp only [Act.put, List.setIfInBounds_toArray, List.set_cons_zero, List.set_cons_succ]
  refine wpAnyH_take (i := 24) (oi := ({ dst := some 57, op := Op.load 32 (Operand.tmp 7), type := 32, pos := "law.go:110", after := #[{ on := 20, ground := Ground.guard }], guard := some (20, false) } : Oper)) (v := ?_) rfl (by kernel_rfl) (by kernel_rfl) (by kernel_rfl) (fun _ _ _ h => h) (Or.inl ⟨by rfl, ?_⟩) (by assumption) ?_
  rotate_left
  · (intro wz hSw; (try dsimp only at hSw); go_simp; try with_reducible rfl)
  simp only [Act.put, List.setIfInBounds_toArray, List.set_cons_zero, List.set_cons_succ]
  refine wpAnyH_ready (rs := [23]) (by kernel_rfl) (by simp) ?_
  refine AllReadyH.cons (o := ({ dst := some 56, op := Op.call { callee := Callee.value (Operand.func 20), args := #[Operand.tmp 54, Operand.tmp 55], argTypes := #[32, 32] }, type := 32, pos := "law.go:110", after := #[{ on := 21, ground := Ground.data }, { on := 22, ground := Ground.data }, { on := 20, ground := Ground.chain }, { on := 20, ground := Ground.guard }], guard := some (20, false) } : Oper)) rfl (fun K hK => ?_) AllReadyH.nil
  go_simp
  go_at_call 20
  refine (lift (q5 _) (by assumption) HCL.out).mono ?_
  rintro e v6 ⟨rfl, g6⟩
  clear hHeld g5
  refine hK.out _ _ g6 (fun hHeld => ?_)
  clear hK K
  refine wpAnyH_take (i := 25) (oi := ({ dst := some 58, op := Op.binOp BinOp.neq 32 (Operand.tmp 56) (Operand.tmp 57) 32, type := 4, pos := "law.go:110", after := #[{ on := 23, ground := Ground.data }, { on := 24, ground := Ground.data }, { on := 20, ground := Ground.guard }], guard := some (20, false) } : Oper)) (v := ?_) rfl (by kernel_rfl) (by kernel_rfl) (by kernel_rfl) (fun _ _ _ h => h) (Or.inl ⟨by rfl, ?_⟩) (by assumption) ?_
  rotate_left
  · (intro wz hSw; (try dsimp only at hSw); go_simp; try with_reducible rfl)
  simp only [Act.put, List.setIfInBounds_toArray, List.set_cons_zero, List.set_cons_succ]
  refine wpAnyH_take (i := 26) (oi := ({ dst := some 59, op := Op.pick (Operand.tmp 53) (Operand.const (Value.bool true)) (Operand.tmp 58), type := 4, pos := "law.go:110", after := #[{ on := 20, ground := Ground.data }, { on := 25, ground := Ground.data }], guard := none } : Oper)) (v := ?_) rfl (by kernel_rfl) (by kernel_rfl) (by kernel_rfl) (fun _ _ _ h => h) (Or.inl ⟨by rfl, ?_⟩) (by assumption) ?_
  rotate_left
  · (intro wz hSw; (try dsimp only at hSw); go_simp; try with_reducible rfl)
  simp only [Act.put, List.setIfInBounds_toArray, List.set_cons_zero, List.set_cons_succ]
  refine wpAnyH_take (i := 27) (oi := ({ dst := some 60, op := Op.move (Operand.tmp 59), type := 4, pos := "law.go:110", after := #[{ on := 26, ground := Ground.data }, { on := 23, ground := Ground.chain }], guard := none } : Oper)) (v := ?_) rfl (by kernel_rfl) (by kernel_rfl) (by kernel_rfl) (fun _ _ _ h => h) (Or.inl ⟨by rfl, ?_⟩) (by assumption) ?_
  rotate_left
  · (intro wz hSw; (try dsimp only at hSw); go_simp; try with_reducible rfl)
  simp only [Act.put, List.setIfInBounds_toArray, List.set_cons_zero, List.set_cons_succ]
  refine wpAnyH_take (i := 28) (oi := ({ dst := some 61, op := Op.load 32 (Operand.tmp 7), type := 32, pos := "law.go:110", after := #[{ on := 27, ground := Ground.guard }], guard := some (27, false) } : Oper)) (v := ?_) rfl (by kernel_rfl) (by kernel_rfl) (by kernel_rfl) (fun _ _ _ h => h) (Or.inl ⟨by rfl, ?_⟩) (by assumption) ?_
  rotate_left
  · (intro wz hSw; (try dsimp only at hSw); go_simp; try with_reducible rfl)
  simp only [Act.put, List.setIfInBounds_toArray, List.set_cons_zero, List.set_cons_succ]
  refine wpAnyH_take (i := 29) (oi := ({ dst := some 62, op := Op.load 32 (Operand.tmp 10), type := 32, pos := "law.go:110", after := #[{ on := 27, ground := Ground.guard }], guard := some (27, false) } : Oper)) (v := ?_) rfl (by kernel_rfl) (by kernel_rfl) (by kernel_rfl) (fun _ _ _ h => h) (Or.inl ⟨by rfl, ?_⟩) (by assumption) ?_
  rotate_left
  · (intro wz hSw; (try dsimp only at hSw); go_simp; try with_reducible rfl)
  simp only [Act.put, List.setIfInBounds_toArray, List.set_cons_zero, List.set_cons_succ]
  refine wpAnyH_ready (rs := [30]) (by kernel_rfl) (by simp) ?_
  refine AllReadyH.cons (o := ({ dst := some 63, op := Op.call { callee := Callee.value (Operand.func 22), args := #[Operand.tmp 61, Operand.tmp 62], argTypes := #[32, 32] }, type := 4, pos := "law.go:110", after := #[{ on := 28, ground := Ground.data }, { on := 29, ground := Ground.data }, { on := 27, ground := Ground.chain }, { on := 27, ground := Ground.guard }], guard := some (27, false) } : Oper)) rfl (fun K hK => ?_) AllReadyH.nil
  go_simp
  go_at_call 22
  refine (lift (t1 _) (by assumption) HCL.out).mono ?_
  rintro e v7 ⟨rfl, g7⟩
  clear hHeld g6
  refine hK.out _ _ g7 (fun hHeld => ?_)
  clear hK K
  refine wpAnyH_take (i := 31) (oi := ({ dst := some 64, op := Op.unOp UnOp.not 4 (Operand.tmp 63), type := 4, pos := "law.go:110", after := #[{ on := 30, ground := Ground.data }, { on := 27, ground := Ground.guard }], guard := some (27, false) } : Oper)) (v := ?_) rfl (by kernel_rfl) (by kernel_rfl) (by kernel_rfl) (fun _ _ _ h => h) (Or.inl ⟨by rfl, ?_⟩) (by assumption) ?_
  rotate_left
  · (intro wz hSw; (try dsimp only at hSw); go_simp; try with_reducible rfl)
  simp only [Act.put, List.setIfInBounds_toArray, List.set_cons_zero, List.set_cons_succ]
  refine wpAnyH_take (i := 32) (oi := ({ dst := some 65, op := Op.pick (Operand.tmp 60) (Operand.const (Value.bool true)) (Operand.tmp 64), type := 4, pos := "law.go:110", after := #[{ on := 27, ground := Ground.data }, { on := 31, ground := Ground.data }], guard := none } : Oper)) (v := ?_) rfl (by kernel_rfl) (by kernel_rfl) (by kernel_rfl) (fun _ _ _ h => h) (Or.inl ⟨by rfl, ?_⟩) (by assumption) ?_
  rotate_left
  · (intro wz hSw; (try dsimp only at hSw); go_simp; try with_reducible rfl)
  simp only [Act.put, List.setIfInBounds_toArray, List.set_cons_zero, List.set_cons_succ]
  refine wpAnyH_take (i := 33) (oi := ({ dst := some 66, op := Op.move (Operand.tmp 65), type := 4, pos := "law.go:110", after := #[{ on := 32, ground := Ground.data }, { on := 30, ground := Ground.chain }], guard := none } : Oper)) (v := ?_) rfl (by kernel_rfl) (by kernel_rfl) (by kernel_rfl) (fun _ _ _ h => h) (Or.inl ⟨by rfl, ?_⟩) (by assumption) ?_
  rotate_left
  · (intro wz hSw; (try dsimp only at hSw); go_simp; try with_reducible rfl)
  simp only [Act.put, List.setIfInBounds_toArray, List.set_cons_zero, List.set_cons_succ]
  refine wpAnyH_take (i := 34) (oi := ({ dst := some 67, op := Op.load 32 (Operand.tmp 8), type := 32, pos := "law.go:110", after := #[{ on := 33, ground := Ground.guard }], guard := some (33, false) } : Oper)) (v := ?_) rfl (by kernel_rfl) (by kernel_rfl) (by kernel_rfl) (fun _ _ _ h => h) (Or.inl ⟨by rfl, ?_⟩) (by assumption) ?_
  rotate_left
  · (intro wz hSw; (try dsimp only at hSw); go_simp; try with_reducible rfl)
  simp only [Act.put, List.setIfInBounds_toArray, List.set_cons_zero, List.set_cons_succ]
  refine wpAnyH_take (i := 35) (oi := ({ dst := some 68, op := Op.load 32 (Operand.tmp 10), type := 32, pos := "law.go:110", after := #[{ on := 33, ground := Ground.guard }], guard := some (33, false) } : Oper)) (v := ?_) rfl (by kernel_rfl) (by kernel_rfl) (by kernel_rfl) (fun _ _ _ h => h) (Or.inl ⟨by rfl, ?_⟩) (by assumption) ?_
  rotate_left
  · (intro wz hSw; (try dsimp only at hSw); go_simp; try with_reducible rfl)
  simp only [Act.put, List.setIfInBounds_toArray, List.set_cons_zero, List.set_cons_succ]
  refine wpAnyH_ready (rs := [36]) (by kernel_rfl) (by simp) ?_
  refine AllReadyH.cons (o := ({ dst := some 69, op := Op.call { callee := Callee.value (Operand.func 22), args := #[Operand.tmp 67, Operand.tmp 68], argTypes := #[32, 32] }, type := 4, pos := "law.go:110", after := #[{ on := 34, ground := Ground.data }, { on := 35, ground := Ground.data }, { on := 33, ground := Ground.chain }, { on := 33, ground := Ground.guard }], guard := some (33, false) } : Oper)) rfl (fun K hK => ?_) AllReadyH.nil
  go_simp
  go_at_call 22
  refine (lift (t2 _) (by assumption) HCL.out).mono ?_
  rintro e v8 ⟨rfl, g8⟩
  clear hHeld g7
  refine hK.out _ _ g8 (fun hHeld => ?_)
  clear hK K
  refine wpAnyH_take (i := 37) (oi := ({ dst := some 70, op := Op.unOp UnOp.not 4 (Operand.tmp 69), type := 4, pos := "law.go:110", after := #[{ on := 36, ground := Ground.data }, { on := 33, ground := Ground.guard }], guard := some (33, false) } : Oper)) (v := ?_) rfl (by kernel_rfl) (by kernel_rfl) (by kernel_rfl) (fun _ _ _ h => h) (Or.inl ⟨by rfl, ?_⟩) (by assumption) ?_
  rotate_left
  · (intro wz hSw; (try dsimp only at hSw); go_simp; try with_reducible rfl)
  simp only [Act.put, List.setIfInBounds_toArray, List.set_cons_zero, List.set_cons_succ]
  refine wpAnyH_take (i := 38) (oi := ({ dst := some 71, op := Op.pick (Operand.tmp 66) (Operand.const (Value.bool true)) (Operand.tmp 70), type := 4, pos := "law.go:110", after := #[{ on := 33, ground := Ground.data }, { on := 37, ground := Ground.data }], guard := none } : Oper)) (v := ?_) rfl (by kernel_rfl) (by kernel_rfl) (by kernel_rfl) (fun _ _ _ h => h) (Or.inl ⟨by rfl, ?_⟩) (by assumption) ?_
  rotate_left
  · (intro wz hSw; (try dsimp only at hSw); go_simp; try with_reducible rfl)
  simp only [Act.put, List.setIfInBounds_toArray, List.set_cons_zero, List.set_cons_succ]
  refine wpAnyH_done (by kernel_rfl) ?_ _
  have H3 : Hid (Br v8 k7 (up X.s) X.k X.n X.lo X.hi (up X.p) ∧ Br v8 k8 (up Y.s) Y.k Y.n Y.lo Y.hi (up Y.p) ∧ Br v8 k9 (up Z.s) Z.k Z.n Z.lo Z.hi (up Z.p) ∧ Br v8 k10 (up J.s) J.k J.n J.lo J.hi (up J.p) ∧ Below N w v8 ∧ N ≤ v8.heap.size) := by
    have y9 := (g8.2.2.2.2.2.2.2.2.2.2.2.2.2.2.2.2.2.2.2.2.2.2.2.2).out
    exact ⟨y9.1, y9.2.1, y9.2.2.1, y9.2.2.2.1, y9.2.2.2.2.1, y9.2.2.2.2.2⟩
  clear hS0 HCL hHeld q1 q2 q3 q4 q5 t1 t2 g8
  go_upto_region 5 with fail
  go_cut [85] (fun v85 wy => v85 = .bool false ∧ Hid (Br wy k7 (up X.s) X.k X.n X.lo X.hi (up X.p) ∧ Br wy k8 (up Y.s) Y.k Y.n Y.lo Y.hi (up Y.p) ∧ Br wy k9 (up Z.s) Z.k Z.n Z.lo Z.hi (up Z.p) ∧ Br wy k10 (up J.s) J.k J.n J.lo J.hi (up J.p) ∧ Below N w wy ∧ N ≤ wy.heap.size))
  case first =>
    have zk7_0 := H3.out.1.c0
    have zk7_1 := H3.out.1.c1
    have zk7_2 := H3.out.1.c2
    have zk7_3 := H3.out.1.c3
    have zk7_4 := H3.out.1.c4
    have zk7_5 := H3.out.1.c5
    have zk8_0 := H3.out.2.1.c0
    have zk8_1 := H3.out.2.1.c1
    have zk8_2 := H3.out.2.1.c2
    have zk8_3 := H3.out.2.1.c3
    have zk8_4 := H3.out.2.1.c4
    have zk8_5 := H3.out.2.1.c5
    have zk9_0 := H3.out.2.2.1.c0
    have zk9_1 := H3.out.2.2.1.c1
    have zk9_2 := H3.out.2.2.1.c2
    have zk9_3 := H3.out.2.2.1.c3
    have zk9_4 := H3.out.2.2.1.c4
    have zk9_5 := H3.out.2.2.1.c5
    have zk10_0 := H3.out.2.2.2.1.c0
    have zk10_1 := H3.out.2.2.2.1.c1
    have zk10_2 := H3.out.2.2.2.1.c2
    have zk10_3 := H3.out.2.2.2.1.c3
    have zk10_4 := H3.out.2.2.2.1.c4
    have zk10_5 := H3.out.2.2.2.1.c5
    cases b1
    · go_wp2_with (first | (go_at_call 22; refine (u1 _).mono ?_; rintro e w1 ⟨rfl, hb1⟩; have HZ := hide (And.intro (H3.out.1.keep hb1) (And.intro (H3.out.2.1.keep hb1) (And.intro (H3.out.2.2.1.keep hb1) (And.intro (H3.out.2.2.2.1.keep hb1) (And.intro (H3.out.2.2.2.2.1.trans (hb1.mono H3.out.2.2.2.2.2)) (Nat.le_trans H3.out.2.2.2.2.2 hb1.size)))))); clear H3 hb1 u1 zk7_0 zk7_1 zk7_2 zk7_3 zk7_4 zk7_5 zk8_0 zk8_1 zk8_2 zk8_3 zk8_4 zk8_5 zk9_0 zk9_1 zk9_2 zk9_3 zk9_4 zk9_5 zk10_0 zk10_1 zk10_2 zk10_3 zk10_4 zk10_5; have H3 := HZ; clear HZ; have zk7_0 := H3.out.1.c0; have zk7_1 := H3.out.1.c1; have zk7_2 := H3.out.1.c2; have zk7_3 := H3.out.1.c3; have zk7_4 := H3.out.1.c4; have zk7_5 := H3.out.1.c5; have zk8_0 := H3.out.2.1.c0; have zk8_1 := H3.out.2.1.c1; have zk8_2 := H3.out.2.1.c2; have zk8_3 := H3.out.2.1.c3; have zk8_4 := H3.out.2.1.c4; have zk8_5 := H3.out.2.1.c5; have zk9_0 := H3.out.2.2.1.c0; have zk9_1 := H3.out.2.2.1.c1; have zk9_2 := H3.out.2.2.1.c2; have zk9_3 := H3.out.2.2.1.c3; have zk9_4 := H3.out.2.2.1.c4; have zk9_5 := H3.out.2.2.1.c5; have zk10_0 := H3.out.2.2.2.1.c0; have zk10_1 := H3.out.2.2.2.1.c1; have zk10_2 := H3.out.2.2.2.1.c2; have zk10_3 := H3.out.2.2.2.1.c3; have zk10_4 := H3.out.2.2.2.1.c4; have zk10_5 := H3.out.2.2.2.1.c5) | (go_at_call 22; refine (u2 _).mono ?_; rintro e w1 ⟨rfl, hb1⟩; have HZ := hide (And.intro (H3.out.1.keep hb1) (And.intro (H3.out.2.1.keep hb1) (And.intro (H3.out.2.2.1.keep hb1) (And.intro (H3.out.2.2.2.1.keep hb1) (And.intro (H3.out.2.2.2.2.1.trans (hb1.mono H3.out.2.2.2.2.2)) (Nat.le_trans H3.out.2.2.2.2.2 hb1.size)))))); clear H3 hb1 u2 zk7_0 zk7_1 zk7_2 zk7_3 zk7_4 zk7_5 zk8_0 zk8_1 zk8_2 zk8_3 zk8_4 zk8_5 zk9_0 zk9_1 zk9_2 zk9_3 zk9_4 zk9_5 zk10_0 zk10_1 zk10_2 zk10_3 zk10_4 zk10_5; have H3 := HZ; clear HZ; have zk7_0 := H3.out.1.c0; have zk7_1 := H3.out.1.c1; have zk7_2 := H3.out.1.c2; have zk7_3 := H3.out.1.c3; have zk7_4 := H3.out.1.c4; have zk7_5 := H3.out.1.c5; have zk8_0 := H3.out.2.1.c0; have zk8_1 := H3.out.2.1.c1; have zk8_2 := H3.out.2.1.c2; have zk8_3 := H3.out.2.1.c3; have zk8_4 := H3.out.2.1.c4; have zk8_5 := H3.out.2.1.c5; have zk9_0 := H3.out.2.2.1.c0; have zk9_1 := H3.out.2.2.1.c1; have zk9_2 := H3.out.2.2.1.c2; have zk9_3 := H3.out.2.2.1.c3; have zk9_4 := H3.out.2.2.1.c4; have zk9_5 := H3.out.2.2.1.c5; have zk10_0 := H3.out.2.2.2.1.c0; have zk10_1 := H3.out.2.2.2.1.c1; have zk10_2 := H3.out.2.2.2.1.c2; have zk10_3 := H3.out.2.2.2.1.c3; have zk10_4 := H3.out.2.2.2.1.c4; have zk10_5 := H3.out.2.2.2.1.c5) | (go_at_call 22; refine (u5 _).mono ?_; rintro e w1 ⟨rfl, hb1⟩; have HZ := hide (And.intro (H3.out.1.keep hb1) (And.intro (H3.out.2.1.keep hb1) (And.intro (H3.out.2.2.1.keep hb1) (And.intro (H3.out.2.2.2.1.keep hb1) (And.intro (H3.out.2.2.2.2.1.trans (hb1.mono H3.out.2.2.2.2.2)) (Nat.le_trans H3.out.2.2.2.2.2 hb1.size)))))); clear H3 hb1 u5 zk7_0 zk7_1 zk7_2 zk7_3 zk7_4 zk7_5 zk8_0 zk8_1 zk8_2 zk8_3 zk8_4 zk8_5 zk9_0 zk9_1 zk9_2 zk9_3 zk9_4 zk9_5 zk10_0 zk10_1 zk10_2 zk10_3 zk10_4 zk10_5; have H3 := HZ; clear HZ; have zk7_0 := H3.out.1.c0; have zk7_1 := H3.out.1.c1; have zk7_2 := H3.out.1.c2; have zk7_3 := H3.out.1.c3; have zk7_4 := H3.out.1.c4; have zk7_5 := H3.out.1.c5; have zk8_0 := H3.out.2.1.c0; have zk8_1 := H3.out.2.1.c1; have zk8_2 := H3.out.2.1.c2; have zk8_3 := H3.out.2.1.c3; have zk8_4 := H3.out.2.1.c4; have zk8_5 := H3.out.2.1.c5; have zk9_0 := H3.out.2.2.1.c0; have zk9_1 := H3.out.2.2.1.c1; have zk9_2 := H3.out.2.2.1.c2; have zk9_3 := H3.out.2.2.1.c3; have zk9_4 := H3.out.2.2.1.c4; have zk9_5 := H3.out.2.2.1.c5; have zk10_0 := H3.out.2.2.2.1.c0; have zk10_1 := H3.out.2.2.2.1.c1; have zk10_2 := H3.out.2.2.2.1.c2; have zk10_3 := H3.out.2.2.2.1.c3; have zk10_4 := H3.out.2.2.2.1.c4; have zk10_5 := H3.out.2.2.2.1.c5))
      go_meet
      case rel => exact ⟨rfl, H3.out⟩
    · cases b2
      · go_wp2_with (first | (go_at_call 22; refine (u1 _).mono ?_; rintro e w1 ⟨rfl, hb1⟩; have HZ := hide (And.intro (H3.out.1.keep hb1) (And.intro (H3.out.2.1.keep hb1) (And.intro (H3.out.2.2.1.keep hb1) (And.intro (H3.out.2.2.2.1.keep hb1) (And.intro (H3.out.2.2.2.2.1.trans (hb1.mono H3.out.2.2.2.2.2)) (Nat.le_trans H3.out.2.2.2.2.2 hb1.size)))))); clear H3 hb1 u1 zk7_0 zk7_1 zk7_2 zk7_3 zk7_4 zk7_5 zk8_0 zk8_1 zk8_2 zk8_3 zk8_4 zk8_5 zk9_0 zk9_1 zk9_2 zk9_3 zk9_4 zk9_5 zk10_0 zk10_1 zk10_2 zk10_3 zk10_4 zk10_5; have H3 := HZ; clear HZ; have zk7_0 := H3.out.1.c0; have zk7_1 := H3.out.1.c1; have zk7_2 := H3.out.1.c2; have zk7_3 := H3.out.1.c3; have zk7_4 := H3.out.1.c4; have zk7_5 := H3.out.1.c5; have zk8_0 := H3.out.2.1.c0; have zk8_1 := H3.out.2.1.c1; have zk8_2 := H3.out.2.1.c2; have zk8_3 := H3.out.2.1.c3; have zk8_4 := H3.out.2.1.c4; have zk8_5 := H3.out.2.1.c5; have zk9_0 := H3.out.2.2.1.c0; have zk9_1 := H3.out.2.2.1.c1; have zk9_2 := H3.out.2.2.1.c2; have zk9_3 := H3.out.2.2.1.c3; have zk9_4 := H3.out.2.2.1.c4; have zk9_5 := H3.out.2.2.1.c5; have zk10_0 := H3.out.2.2.2.1.c0; have zk10_1 := H3.out.2.2.2.1.c1; have zk10_2 := H3.out.2.2.2.1.c2; have zk10_3 := H3.out.2.2.2.1.c3; have zk10_4 := H3.out.2.2.2.1.c4; have zk10_5 := H3.out.2.2.2.1.c5) | (go_at_call 22; refine (u2 _).mono ?_; rintro e w1 ⟨rfl, hb1⟩; have HZ := hide (And.intro (H3.out.1.keep hb1) (And.intro (H3.out.2.1.keep hb1) (And.intro (H3.out.2.2.1.keep hb1) (And.intro (H3.out.2.2.2.1.keep hb1) (And.intro (H3.out.2.2.2.2.1.trans (hb1.mono H3.out.2.2.2.2.2)) (Nat.le_trans H3.out.2.2.2.2.2 hb1.size)))))); clear H3 hb1 u2 zk7_0 zk7_1 zk7_2 zk7_3 zk7_4 zk7_5 zk8_0 zk8_1 zk8_2 zk8_3 zk8_4 zk8_5 zk9_0 zk9_1 zk9_2 zk9_3 zk9_4 zk9_5 zk10_0 zk10_1 zk10_2 zk10_3 zk10_4 zk10_5; have H3 := HZ; clear HZ; have zk7_0 := H3.out.1.c0; have zk7_1 := H3.out.1.c1; have zk7_2 := H3.out.1.c2; have zk7_3 := H3.out.1.c3; have zk7_4 := H3.out.1.c4; have zk7_5 := H3.out.1.c5; have zk8_0 := H3.out.2.1.c0; have zk8_1 := H3.out.2.1.c1; have zk8_2 := H3.out.2.1.c2; have zk8_3 := H3.out.2.1.c3; have zk8_4 := H3.out.2.1.c4; have zk8_5 := H3.out.2.1.c5; have zk9_0 := H3.out.2.2.1.c0; have zk9_1 := H3.out.2.2.1.c1; have zk9_2 := H3.out.2.2.1.c2; have zk9_3 := H3.out.2.2.1.c3; have zk9_4 := H3.out.2.2.1.c4; have zk9_5 := H3.out.2.2.1.c5; have zk10_0 := H3.out.2.2.2.1.c0; have zk10_1 := H3.out.2.2.2.1.c1; have zk10_2 := H3.out.2.2.2.1.c2; have zk10_3 := H3.out.2.2.2.1.c3; have zk10_4 := H3.out.2.2.2.1.c4; have zk10_5 := H3.out.2.2.2.1.c5) | (go_at_call 22; refine (u5 _).mono ?_; rintro e w1 ⟨rfl, hb1⟩; have HZ := hide (And.intro (H3.out.1.keep hb1) (And.intro (H3.out.2.1.keep hb1) (And.intro (H3.out.2.2.1.keep hb1) (And.intro (H3.out.2.2.2.1.keep hb1) (And.intro (H3.out.2.2.2.2.1.trans (hb1.mono H3.out.2.2.2.2.2)) (Nat.le_trans H3.out.2.2.2.2.2 hb1.size)))))); clear H3 hb1 u5 zk7_0 zk7_1 zk7_2 zk7_3 zk7_4 zk7_5 zk8_0 zk8_1 zk8_2 zk8_3 zk8_4 zk8_5 zk9_0 zk9_1 zk9_2 zk9_3 zk9_4 zk9_5 zk10_0 zk10_1 zk10_2 zk10_3 zk10_4 zk10_5; have H3 := HZ; clear HZ; have zk7_0 := H3.out.1.c0; have zk7_1 := H3.out.1.c1; have zk7_2 := H3.out.1.c2; have zk7_3 := H3.out.1.c3; have zk7_4 := H3.out.1.c4; have zk7_5 := H3.out.1.c5; have zk8_0 := H3.out.2.1.c0; have zk8_1 := H3.out.2.1.c1; have zk8_2 := H3.out.2.1.c2; have zk8_3 := H3.out.2.1.c3; have zk8_4 := H3.out.2.1.c4; have zk8_5 := H3.out.2.1.c5; have zk9_0 := H3.out.2.2.1.c0; have zk9_1 := H3.out.2.2.1.c1; have zk9_2 := H3.out.2.2.1.c2; have zk9_3 := H3.out.2.2.1.c3; have zk9_4 := H3.out.2.2.1.c4; have zk9_5 := H3.out.2.2.1.c5; have zk10_0 := H3.out.2.2.2.1.c0; have zk10_1 := H3.out.2.2.2.1.c1; have zk10_2 := H3.out.2.2.2.1.c2; have zk10_3 := H3.out.2.2.2.1.c3; have zk10_4 := H3.out.2.2.2.1.c4; have zk10_5 := H3.out.2.2.2.1.c5))
        go_meet
        case rel => exact ⟨rfl, H3.out⟩
      · obtain rfl : b5 = true := F1.out rfl rfl
        go_wp2_with (first | (go_at_call 22; refine (u1 _).mono ?_; rintro e w1 ⟨rfl, hb1⟩; have HZ := hide (And.intro (H3.out.1.keep hb1) (And.intro (H3.out.2.1.keep hb1) (And.intro (H3.out.2.2.1.keep hb1) (And.intro (H3.out.2.2.2.1.keep hb1) (And.intro (H3.out.2.2.2.2.1.trans (hb1.mono H3.out.2.2.2.2.2)) (Nat.le_trans H3.out.2.2.2.2.2 hb1.size)))))); clear H3 hb1 u1 zk7_0 zk7_1 zk7_2 zk7_3 zk7_4 zk7_5 zk8_0 zk8_1 zk8_2 zk8_3 zk8_4 zk8_5 zk9_0 zk9_1 zk9_2 zk9_3 zk9_4 zk9_5 zk10_0 zk10_1 zk10_2 zk10_3 zk10_4 zk10_5; have H3 := HZ; clear HZ; have zk7_0 := H3.out.1.c0; have zk7_1 := H3.out.1.c1; have zk7_2 := H3.out.1.c2; have zk7_3 := H3.out.1.c3; have zk7_4 := H3.out.1.c4; have zk7_5 := H3.out.1.c5; have zk8_0 := H3.out.2.1.c0; have zk8_1 := H3.out.2.1.c1; have zk8_2 := H3.out.2.1.c2; have zk8_3 := H3.out.2.1.c3; have zk8_4 := H3.out.2.1.c4; have zk8_5 := H3.out.2.1.c5; have zk9_0 := H3.out.2.2.1.c0; have zk9_1 := H3.out.2.2.1.c1; have zk9_2 := H3.out.2.2.1.c2; have zk9_3 := H3.out.2.2.1.c3; have zk9_4 := H3.out.2.2.1.c4; have zk9_5 := H3.out.2.2.1.c5; have zk10_0 := H3.out.2.2.2.1.c0; have zk10_1 := H3.out.2.2.2.1.c1; have zk10_2 := H3.out.2.2.2.1.c2; have zk10_3 := H3.out.2.2.2.1.c3; have zk10_4 := H3.out.2.2.2.1.c4; have zk10_5 := H3.out.2.2.2.1.c5) | (go_at_call 22; refine (u2 _).mono ?_; rintro e w1 ⟨rfl, hb1⟩; have HZ := hide (And.intro (H3.out.1.keep hb1) (And.intro (H3.out.2.1.keep hb1) (And.intro (H3.out.2.2.1.keep hb1) (And.intro (H3.out.2.2.2.1.keep hb1) (And.intro (H3.out.2.2.2.2.1.trans (hb1.mono H3.out.2.2.2.2.2)) (Nat.le_trans H3.out.2.2.2.2.2 hb1.size)))))); clear H3 hb1 u2 zk7_0 zk7_1 zk7_2 zk7_3 zk7_4 zk7_5 zk8_0 zk8_1 zk8_2 zk8_3 zk8_4 zk8_5 zk9_0 zk9_1 zk9_2 zk9_3 zk9_4 zk9_5 zk10_0 zk10_1 zk10_2 zk10_3 zk10_4 zk10_5; have H3 := HZ; clear HZ; have zk7_0 := H3.out.1.c0; have zk7_1 := H3.out.1.c1; have zk7_2 := H3.out.1.c2; have zk7_3 := H3.out.1.c3; have zk7_4 := H3.out.1.c4; have zk7_5 := H3.out.1.c5; have zk8_0 := H3.out.2.1.c0; have zk8_1 := H3.out.2.1.c1; have zk8_2 := H3.out.2.1.c2; have zk8_3 := H3.out.2.1.c3; have zk8_4 := H3.out.2.1.c4; have zk8_5 := H3.out.2.1.c5; have zk9_0 := H3.out.2.2.1.c0; have zk9_1 := H3.out.2.2.1.c1; have zk9_2 := H3.out.2.2.1.c2; have zk9_3 := H3.out.2.2.1.c3; have zk9_4 := H3.out.2.2.1.c4; have zk9_5 := H3.out.2.2.1.c5; have zk10_0 := H3.out.2.2.2.1.c0; have zk10_1 := H3.out.2.2.2.1.c1; have zk10_2 := H3.out.2.2.2.1.c2; have zk10_3 := H3.out.2.2.2.1.c3; have zk10_4 := H3.out.2.2.2.1.c4; have zk10_5 := H3.out.2.2.2.1.c5) | (go_at_call 22; refine (u5 _).mono ?_; rintro e w1 ⟨rfl, hb1⟩; have HZ := hide (And.intro (H3.out.1.keep hb1) (And.intro (H3.out.2.1.keep hb1) (And.intro (H3.out.2.2.1.keep hb1) (And.intro (H3.out.2.2.2.1.keep hb1) (And.intro (H3.out.2.2.2.2.1.trans (hb1.mono H3.out.2.2.2.2.2)) (Nat.le_trans H3.out.2.2.2.2.2 hb1.size)))))); clear H3 hb1 u5 zk7_0 zk7_1 zk7_2 zk7_3 zk7_4 zk7_5 zk8_0 zk8_1 zk8_2 zk8_3 zk8_4 zk8_5 zk9_0 zk9_1 zk9_2 zk9_3 zk9_4 zk9_5 zk10_0 zk10_1 zk10_2 zk10_3 zk10_4 zk10_5; have H3 := HZ; clear HZ; have zk7_0 := H3.out.1.c0; have zk7_1 := H3.out.1.c1; have zk7_2 := H3.out.1.c2; have zk7_3 := H3.out.1.c3; have zk7_4 := H3.out.1.c4; have zk7_5 := H3.out.1.c5; have zk8_0 := H3.out.2.1.c0; have zk8_1 := H3.out.2.1.c1; have zk8_2 := H3.out.2.1.c2; have zk8_3 := H3.out.2.1.c3; have zk8_4 := H3.out.2.1.c4; have zk8_5 := H3.out.2.1.c5; have zk9_0 := H3.out.2.2.1.c0; have zk9_1 := H3.out.2.2.1.c1; have zk9_2 := H3.out.2.2.1.c2; have zk9_3 := H3.out.2.2.1.c3; have zk9_4 := H3.out.2.2.1.c4; have zk9_5 := H3.out.2.2.1.c5; have zk10_0 := H3.out.2.2.2.1.c0; have zk10_1 := H3.out.2.2.2.1.c1; have zk10_2 := H3.out.2.2.2.1.c2; have zk10_3 := H3.out.2.2.2.1.c3; have zk10_4 := H3.out.2.2.2.1.c4; have zk10_5 := H3.out.2.2.2.1.c5))
        go_meet
        case rel => exact ⟨rfl, H3.out⟩
  case rest =>
    obtain ⟨rfl, H5⟩ := hcut
    clear H3
    clear u1 u2 u5 F1
    go_upto_region 7 with fail
    have zk7_0 := H5.out.1.c0
    have zk7_1 := H5.out.1.c1
    have zk7_2 := H5.out.1.c2
    have zk7_3 := H5.out.1.c3
    have zk7_4 := H5.out.1.c4
    have zk7_5 := H5.out.1.c5
    have zk8_0 := H5.out.2.1.c0
    have zk8_1 := H5.out.2.1.c1
    have zk8_2 := H5.out.2.1.c2
    have zk8_3 := H5.out.2.1.c3
    have zk8_4 := H5.out.2.1.c4
    have zk8_5 := H5.out.2.1.c5
    go_upto_region 8 with (go_at_call 10; refine (m1 _).mono ?_; rintro e wK ⟨rfl, hK⟩)
    go_name_world W8 hW
    have H7 : Hid (Br W8 k7 (up X.s) X.k X.n X.lo X.hi (up X.p) ∧ Br W8 k8 (up Y.s) Y.k Y.n Y.lo Y.hi (up Y.p) ∧ Br W8 k9 (up Z.s) Z.k Z.n Z.lo Z.hi (up Z.p) ∧ Br W8 k10 (up J.s) J.k J.n J.lo J.hi (up J.p) ∧ Br W8 wK.heap.size (up m.s) m.k m.n m.lo m.hi (up m.p) ∧ Below N w W8 ∧ N ≤ W8.heap.size) := by
      rw [← hW]
      have u := H5.out.2.2.2.2.1.trans (hK.mono H5.out.2.2.2.2.2)
      have l : N ≤ wK.heap.size := Nat.le_trans H5.out.2.2.2.2.2 hK.size
      exact ⟨(H5.out.1.keep hK).keep ((Below.refl _ _).alloc (Nat.le_refl _) _), (H5.out.2.1.keep hK).keep ((Below.refl _ _).alloc (Nat.le_refl _) _), (H5.out.2.2.1.keep hK).keep ((Below.refl _ _).alloc (Nat.le_refl _) _), (H5.out.2.2.2.1.keep hK).keep ((Below.refl _ _).alloc (Nat.le_refl _) _), Br.new _ _ _ _ _ _ _ _, u.alloc l _, by simp; omega⟩
    clear hW hK H5 zk7_0 zk7_1 zk7_2 zk7_3 zk7_4 zk7_5 zk8_0 zk8_1 zk8_2 zk8_3 zk8_4 zk8_5 m1
    generalize wK.heap.size = k11 at *
    have zk7_0 := H7.out.1.c0
    have zk7_1 := H7.out.1.c1
    have zk7_2 := H7.out.1.c2
    have zk7_3 := H7.out.1.c3
    have zk7_4 := H7.out.1.c4
    have zk7_5 := H7.out.1.c5
    have zk8_0 := H7.out.2.1.c0
    have zk8_1 := H7.out.2.1.c1
    have zk8_2 := H7.out.2.1.c2
    have zk8_3 := H7.out.2.1.c3
    have zk8_4 := H7.out.2.1.c4
    have zk8_5 := H7.out.2.1.c5
    go_upto_region 9 with (go_at_call 10; refine (m2 _).mono ?_; rintro e wK ⟨rfl, hK⟩)
    go_name_world W9 hW
    have H8 : Hid (Br W9 k7 (up X.s) X.k X.n X.lo X.hi (up X.p) ∧ Br W9 k8 (up Y.s) Y.k Y.n Y.lo Y.hi (up Y.p) ∧ Br W9 k9 (up Z.s) Z.k Z.n Z.lo Z.hi (up Z.p) ∧ Br W9 k10 (up J.s) J.k J.n J.lo J.hi (up J.p) ∧ Br W9 k11 (up m.s) m.k m.n m.lo m.hi (up m.p) ∧ Br W9 wK.heap.size (up m.s) m.k m.n m.lo m.hi (up m.p) ∧ Below N w W9 ∧ N ≤ W9.heap.size) := by
      rw [← hW]
      have u := H7.out.2.2.2.2.2.1.trans (hK.mono H7.out.2.2.2.2.2.2)
      have l : N ≤ wK.heap.size := Nat.le_trans H7.out.2.2.2.2.2.2 hK.size
      exact ⟨(H7.out.1.keep hK).keep ((Below.refl _ _).alloc (Nat.le_refl _) _), (H7.out.2.1.keep hK).keep ((Below.refl _ _).alloc (Nat.le_refl _) _), (H7.out.2.2.1.keep hK).keep ((Below.refl _ _).alloc (Nat.le_refl _) _), (H7.out.2.2.2.1.keep hK).keep ((Below.refl _ _).alloc (Nat.le_refl _) _), (H7.out.2.2.2.2.1.keep hK).keep ((Below.refl _ _).alloc (Nat.le_refl _) _), Br.new _ _ _ _ _ _ _ _, u.alloc l _, by simp; omega⟩
    clear hW hK H7 zk7_0 zk7_1 zk7_2 zk7_3 zk7_4 zk7_5 zk8_0 zk8_1 zk8_2 zk8_3 zk8_4 zk8_5 m2
    generalize wK.heap.size = k13 at *
    go_cut [12, 14, 120] (fun v12 v14 v120 wy => v12 = .bool ok ∧ v14 = .bool ok ∧ v120 = .bool false ∧ Hid (Br wy k7 (up X.s) X.k X.n X.lo X.hi (up X.p) ∧ Br wy k8 (up Y.s) Y.k Y.n Y.lo Y.hi (up Y.p) ∧ Br wy k9 (up Z.s) Z.k Z.n Z.lo Z.hi (up Z.p) ∧ Br wy k10 (up J.s) J.k J.n J.lo J.hi (up J.p) ∧ Br wy k11 (up m.s) m.k m.n m.lo m.hi (up m.p) ∧ Br wy k13 (up m.s) m.k m.n m.lo m.hi (up m.p) ∧ Below N w wy ∧ N ≤ wy.heap.size))
    case first =>
      have zk7_0 := H8.out.1.c0
      have zk7_1 := H8.out.1.c1
      have zk7_2 := H8.out.1.c2
      have zk7_3 := H8.out.1.c3
      have zk7_4 := H8.out.1.c4
      have zk7_5 := H8.out.1.c5
      have zk8_0 := H8.out.2.1.c0
      have zk8_1 := H8.out.2.1.c1
      have zk8_2 := H8.out.2.1.c2
      have zk8_3 := H8.out.2.1.c3
      have zk8_4 := H8.out.2.1.c4
      have zk8_5 := H8.out.2.1.c5
      have zk11_0 := H8.out.2.2.2.2.1.c0
      have zk11_1 := H8.out.2.2.2.2.1.c1
      have zk11_2 := H8.out.2.2.2.2.1.c2
      have zk11_3 := H8.out.2.2.2.2.1.c3
      have zk11_4 := H8.out.2.2.2.2.1.c4
      have zk11_5 := H8.out.2.2.2.2.1.c5
      have zk13_0 := H8.out.2.2.2.2.2.1.c0
      have zk13_1 := H8.out.2.2.2.2.2.1.c1
      have zk13_2 := H8.out.2.2.2.2.2.1.c2
      have zk13_3 := H8.out.2.2.2.2.2.1.c3
      have zk13_4 := H8.out.2.2.2.2.2.1.c4
      have zk13_5 := H8.out.2.2.2.2.2.1.c5
      cases ok
      · go_wp2_with (first | (go_at_call 22; refine (u6 _).mono ?_; rintro e w1 ⟨rfl, hb1⟩; have HZ := hide (And.intro (H8.out.1.keep hb1) (And.intro (H8.out.2.1.keep hb1) (And.intro (H8.out.2.2.1.keep hb1) (And.intro (H8.out.2.2.2.1.keep hb1) (And.intro (H8.out.2.2.2.2.1.keep hb1) (And.intro (H8.out.2.2.2.2.2.1.keep hb1) (And.intro (H8.out.2.2.2.2.2.2.1.trans (hb1.mono H8.out.2.2.2.2.2.2.2)) (Nat.le_trans H8.out.2.2.2.2.2.2.2 hb1.size)))))))); clear H8 hb1 u6 zk7_0 zk7_1 zk7_2 zk7_3 zk7_4 zk7_5 zk8_0 zk8_1 zk8_2 zk8_3 zk8_4 zk8_5 zk11_0 zk11_1 zk11_2 zk11_3 zk11_4 zk11_5 zk13_0 zk13_1 zk13_2 zk13_3 zk13_4 zk13_5; have H8 := HZ; clear HZ; have zk7_0 := H8.out.1.c0; have zk7_1 := H8.out.1.c1; have zk7_2 := H8.out.1.c2; have zk7_3 := H8.out.1.c3; have zk7_4 := H8.out.1.c4; have zk7_5 := H8.out.1.c5; have zk8_0 := H8.out.2.1.c0; have zk8_1 := H8.out.2.1.c1; have zk8_2 := H8.out.2.1.c2; have zk8_3 := H8.out.2.1.c3; have zk8_4 := H8.out.2.1.c4; have zk8_5 := H8.out.2.1.c5; have zk11_0 := H8.out.2.2.2.2.1.c0; have zk11_1 := H8.out.2.2.2.2.1.c1; have zk11_2 := H8.out.2.2.2.2.1.c2; have zk11_3 := H8.out.2.2.2.2.1.c3; have zk11_4 := H8.out.2.2.2.2.1.c4; have zk11_5 := H8.out.2.2.2.2.1.c5; have zk13_0 := H8.out.2.2.2.2.2.1.c0; have zk13_1 := H8.out.2.2.2.2.2.1.c1; have zk13_2 := H8.out.2.2.2.2.2.1.c2; have zk13_3 := H8.out.2.2.2.2.2.1.c3; have zk13_4 := H8.out.2.2.2.2.2.1.c4; have zk13_5 := H8.out.2.2.2.2.2.1.c5) | (go_at_call 22; refine (u7 _).mono ?_; rintro e w1 ⟨rfl, hb1⟩; have HZ := hide (And.intro (H8.out.1.keep hb1) (And.intro (H8.out.2.1.keep hb1) (And.intro (H8.out.2.2.1.keep hb1) (And.intro (H8.out.2.2.2.1.keep hb1) (And.intro (H8.out.2.2.2.2.1.keep hb1) (And.intro (H8.out.2.2.2.2.2.1.keep hb1) (And.intro (H8.out.2.2.2.2.2.2.1.trans (hb1.mono H8.out.2.2.2.2.2.2.2)) (Nat.le_trans H8.out.2.2.2.2.2.2.2 hb1.size)))))))); clear H8 hb1 u7 zk7_0 zk7_1 zk7_2 zk7_3 zk7_4 zk7_5 zk8_0 zk8_1 zk8_2 zk8_3 zk8_4 zk8_5 zk11_0 zk11_1 zk11_2 zk11_3 zk11_4 zk11_5 zk13_0 zk13_1 zk13_2 zk13_3 zk13_4 zk13_5; have H8 := HZ; clear HZ; have zk7_0 := H8.out.1.c0; have zk7_1 := H8.out.1.c1; have zk7_2 := H8.out.1.c2; have zk7_3 := H8.out.1.c3; have zk7_4 := H8.out.1.c4; have zk7_5 := H8.out.1.c5; have zk8_0 := H8.out.2.1.c0; have zk8_1 := H8.out.2.1.c1; have zk8_2 := H8.out.2.1.c2; have zk8_3 := H8.out.2.1.c3; have zk8_4 := H8.out.2.1.c4; have zk8_5 := H8.out.2.1.c5; have zk11_0 := H8.out.2.2.2.2.1.c0; have zk11_1 := H8.out.2.2.2.2.1.c1; have zk11_2 := H8.out.2.2.2.2.1.c2; have zk11_3 := H8.out.2.2.2.2.1.c3; have zk11_4 := H8.out.2.2.2.2.1.c4; have zk11_5 := H8.out.2.2.2.2.1.c5; have zk13_0 := H8.out.2.2.2.2.2.1.c0; have zk13_1 := H8.out.2.2.2.2.2.1.c1; have zk13_2 := H8.out.2.2.2.2.2.1.c2; have zk13_3 := H8.out.2.2.2.2.2.1.c3; have zk13_4 := H8.out.2.2.2.2.2.1.c4; have zk13_5 := H8.out.2.2.2.2.2.1.c5))
        go_meet
        case rel => exact ⟨rfl, rfl, rfl, H8.out⟩
      · obtain ⟨rfl, rfl⟩ := F2.out rfl
        go_wp2_with (first | (go_at_call 22; refine (u6 _).mono ?_; rintro e w1 ⟨rfl, hb1⟩; have HZ := hide (And.intro (H8.out.1.keep hb1) (And.intro (H8.out.2.1.keep hb1) (And.intro (H8.out.2.2.1.keep hb1) (And.intro (H8.out.2.2.2.1.keep hb1) (And.intro (H8.out.2.2.2.2.1.keep hb1) (And.intro (H8.out.2.2.2.2.2.1.keep hb1) (And.intro (H8.out.2.2.2.2.2.2.1.trans (hb1.mono H8.out.2.2.2.2.2.2.2)) (Nat.le_trans H8.out.2.2.2.2.2.2.2 hb1.size)))))))); clear H8 hb1 u6 zk7_0 zk7_1 zk7_2 zk7_3 zk7_4 zk7_5 zk8_0 zk8_1 zk8_2 zk8_3 zk8_4 zk8_5 zk11_0 zk11_1 zk11_2 zk11_3 zk11_4 zk11_5 zk13_0 zk13_1 zk13_2 zk13_3 zk13_4 zk13_5; have H8 := HZ; clear HZ; have zk7_0 := H8.out.1.c0; have zk7_1 := H8.out.1.c1; have zk7_2 := H8.out.1.c2; have zk7_3 := H8.out.1.c3; have zk7_4 := H8.out.1.c4; have zk7_5 := H8.out.1.c5; have zk8_0 := H8.out.2.1.c0; have zk8_1 := H8.out.2.1.c1; have zk8_2 := H8.out.2.1.c2; have zk8_3 := H8.out.2.1.c3; have zk8_4 := H8.out.2.1.c4; have zk8_5 := H8.out.2.1.c5; have zk11_0 := H8.out.2.2.2.2.1.c0; have zk11_1 := H8.out.2.2.2.2.1.c1; have zk11_2 := H8.out.2.2.2.2.1.c2; have zk11_3 := H8.out.2.2.2.2.1.c3; have zk11_4 := H8.out.2.2.2.2.1.c4; have zk11_5 := H8.out.2.2.2.2.1.c5; have zk13_0 := H8.out.2.2.2.2.2.1.c0; have zk13_1 := H8.out.2.2.2.2.2.1.c1; have zk13_2 := H8.out.2.2.2.2.2.1.c2; have zk13_3 := H8.out.2.2.2.2.2.1.c3; have zk13_4 := H8.out.2.2.2.2.2.1.c4; have zk13_5 := H8.out.2.2.2.2.2.1.c5) | (go_at_call 22; refine (u7 _).mono ?_; rintro e w1 ⟨rfl, hb1⟩; have HZ := hide (And.intro (H8.out.1.keep hb1) (And.intro (H8.out.2.1.keep hb1) (And.intro (H8.out.2.2.1.keep hb1) (And.intro (H8.out.2.2.2.1.keep hb1) (And.intro (H8.out.2.2.2.2.1.keep hb1) (And.intro (H8.out.2.2.2.2.2.1.keep hb1) (And.intro (H8.out.2.2.2.2.2.2.1.trans (hb1.mono H8.out.2.2.2.2.2.2.2)) (Nat.le_trans H8.out.2.2.2.2.2.2.2 hb1.size)))))))); clear H8 hb1 u7 zk7_0 zk7_1 zk7_2 zk7_3 zk7_4 zk7_5 zk8_0 zk8_1 zk8_2 zk8_3 zk8_4 zk8_5 zk11_0 zk11_1 zk11_2 zk11_3 zk11_4 zk11_5 zk13_0 zk13_1 zk13_2 zk13_3 zk13_4 zk13_5; have H8 := HZ; clear HZ; have zk7_0 := H8.out.1.c0; have zk7_1 := H8.out.1.c1; have zk7_2 := H8.out.1.c2; have zk7_3 := H8.out.1.c3; have zk7_4 := H8.out.1.c4; have zk7_5 := H8.out.1.c5; have zk8_0 := H8.out.2.1.c0; have zk8_1 := H8.out.2.1.c1; have zk8_2 := H8.out.2.1.c2; have zk8_3 := H8.out.2.1.c3; have zk8_4 := H8.out.2.1.c4; have zk8_5 := H8.out.2.1.c5; have zk11_0 := H8.out.2.2.2.2.1.c0; have zk11_1 := H8.out.2.2.2.2.1.c1; have zk11_2 := H8.out.2.2.2.2.1.c2; have zk11_3 := H8.out.2.2.2.2.1.c3; have zk11_4 := H8.out.2.2.2.2.1.c4; have zk11_5 := H8.out.2.2.2.2.1.c5; have zk13_0 := H8.out.2.2.2.2.2.1.c0; have zk13_1 := H8.out.2.2.2.2.2.1.c1; have zk13_2 := H8.out.2.2.2.2.2.1.c2; have zk13_3 := H8.out.2.2.2.2.2.1.c3; have zk13_4 := H8.out.2.2.2.2.2.1.c4; have zk13_5 := H8.out.2.2.2.2.2.1.c5))
        go_meet
        case rel => exact ⟨rfl, rfl, rfl, H8.out⟩
    case rest =>
      obtain ⟨rfl, rfl, rfl, H9⟩ := hcut
      clear H8
      clear u6 u7 F2
      go_upto_region 11 with fail
      go_cut [12, 14, 138] (fun v12 v14 v138 wy => v12 = .bool ok ∧ v14 = .bool ok ∧ v138 = .bool false ∧ Hid (Br wy k7 (up X.s) X.k X.n X.lo X.hi (up X.p) ∧ Br wy k8 (up Y.s) Y.k Y.n Y.lo Y.hi (up Y.p) ∧ Br wy k9 (up Z.s) Z.k Z.n Z.lo Z.hi (up Z.p) ∧ Br wy k10 (up J.s) J.k J.n J.lo J.hi (up J.p) ∧ Br wy k11 (up m.s) m.k m.n m.lo m.hi (up m.p) ∧ Br wy k13 (up m.s) m.k m.n m.lo m.hi (up m.p) ∧ Below N w wy ∧ N ≤ wy.heap.size))
      case first =>
        have zk7_0 := H9.out.1.c0
        have zk7_1 := H9.out.1.c1
        have zk7_2 := H9.out.1.c2
        have zk7_3 := H9.out.1.c3
        have zk7_4 := H9.out.1.c4
        have zk7_5 := H9.out.1.c5
        have zk8_0 := H9.out.2.1.c0
        have zk8_1 := H9.out.2.1.c1
        have zk8_2 := H9.out.2.1.c2
        have zk8_3 := H9.out.2.1.c3
        have zk8_4 := H9.out.2.1.c4
        have zk8_5 := H9.out.2.1.c5
        have zk9_0 := H9.out.2.2.1.c0
        have zk9_1 := H9.out.2.2.1.c1
        have zk9_2 := H9.out.2.2.1.c2
        have zk9_3 := H9.out.2.2.1.c3
        have zk9_4 := H9.out.2.2.1.c4
        have zk9_5 := H9.out.2.2.1.c5
        have zk11_0 := H9.out.2.2.2.2.1.c0
        have zk11_1 := H9.out.2.2.2.2.1.c1
        have zk11_2 := H9.out.2.2.2.2.1.c2
        have zk11_3 := H9.out.2.2.2.2.1.c3
        have zk11_4 := H9.out.2.2.2.2.1.c4
        have zk11_5 := H9.out.2.2.2.2.1.c5
        cases b3
        · go_wp2_with (first | (go_at_call 22; refine (u3 _).mono ?_; rintro e w1 ⟨rfl, hb1⟩; have HZ := hide (And.intro (H9.out.1.keep hb1) (And.intro (H9.out.2.1.keep hb1) (And.intro (H9.out.2.2.1.keep hb1) (And.intro (H9.out.2.2.2.1.keep hb1) (And.intro (H9.out.2.2.2.2.1.keep hb1) (And.intro (H9.out.2.2.2.2.2.1.keep hb1) (And.intro (H9.out.2.2.2.2.2.2.1.trans (hb1.mono H9.out.2.2.2.2.2.2.2)) (Nat.le_trans H9.out.2.2.2.2.2.2.2 hb1.size)))))))); clear H9 hb1 u3 zk7_0 zk7_1 zk7_2 zk7_3 zk7_4 zk7_5 zk8_0 zk8_1 zk8_2 zk8_3 zk8_4 zk8_5 zk9_0 zk9_1 zk9_2 zk9_3 zk9_4 zk9_5 zk11_0 zk11_1 zk11_2 zk11_3 zk11_4 zk11_5; have H9 := HZ; clear HZ; have zk7_0 := H9.out.1.c0; have zk7_1 := H9.out.1.c1; have zk7_2 := H9.out.1.c2; have zk7_3 := H9.out.1.c3; have zk7_4 := H9.out.1.c4; have zk7_5 := H9.out.1.c5; have zk8_0 := H9.out.2.1.c0; have zk8_1 := H9.out.2.1.c1; have zk8_2 := H9.out.2.1.c2; have zk8_3 := H9.out.2.1.c3; have zk8_4 := H9.out.2.1.c4; have zk8_5 := H9.out.2.1.c5; have zk9_0 := H9.out.2.2.1.c0; have zk9_1 := H9.out.2.2.1.c1; have zk9_2 := H9.out.2.2.1.c2; have zk9_3 := H9.out.2.2.1.c3; have zk9_4 := H9.out.2.2.1.c4; have zk9_5 := H9.out.2.2.1.c5; have zk11_0 := H9.out.2.2.2.2.1.c0; have zk11_1 := H9.out.2.2.2.2.1.c1; have zk11_2 := H9.out.2.2.2.2.1.c2; have zk11_3 := H9.out.2.2.2.2.1.c3; have zk11_4 := H9.out.2.2.2.2.1.c4; have zk11_5 := H9.out.2.2.2.2.1.c5) | (go_at_call 22; refine (u4 _).mono ?_; rintro e w1 ⟨rfl, hb1⟩; have HZ := hide (And.intro (H9.out.1.keep hb1) (And.intro (H9.out.2.1.keep hb1) (And.intro (H9.out.2.2.1.keep hb1) (And.intro (H9.out.2.2.2.1.keep hb1) (And.intro (H9.out.2.2.2.2.1.keep hb1) (And.intro (H9.out.2.2.2.2.2.1.keep hb1) (And.intro (H9.out.2.2.2.2.2.2.1.trans (hb1.mono H9.out.2.2.2.2.2.2.2)) (Nat.le_trans H9.out.2.2.2.2.2.2.2 hb1.size)))))))); clear H9 hb1 u4 zk7_0 zk7_1 zk7_2 zk7_3 zk7_4 zk7_5 zk8_0 zk8_1 zk8_2 zk8_3 zk8_4 zk8_5 zk9_0 zk9_1 zk9_2 zk9_3 zk9_4 zk9_5 zk11_0 zk11_1 zk11_2 zk11_3 zk11_4 zk11_5; have H9 := HZ; clear HZ; have zk7_0 := H9.out.1.c0; have zk7_1 := H9.out.1.c1; have zk7_2 := H9.out.1.c2; have zk7_3 := H9.out.1.c3; have zk7_4 := H9.out.1.c4; have zk7_5 := H9.out.1.c5; have zk8_0 := H9.out.2.1.c0; have zk8_1 := H9.out.2.1.c1; have zk8_2 := H9.out.2.1.c2; have zk8_3 := H9.out.2.1.c3; have zk8_4 := H9.out.2.1.c4; have zk8_5 := H9.out.2.1.c5; have zk9_0 := H9.out.2.2.1.c0; have zk9_1 := H9.out.2.2.1.c1; have zk9_2 := H9.out.2.2.1.c2; have zk9_3 := H9.out.2.2.1.c3; have zk9_4 := H9.out.2.2.1.c4; have zk9_5 := H9.out.2.2.1.c5; have zk11_0 := H9.out.2.2.2.2.1.c0; have zk11_1 := H9.out.2.2.2.2.1.c1; have zk11_2 := H9.out.2.2.2.2.1.c2; have zk11_3 := H9.out.2.2.2.2.1.c3; have zk11_4 := H9.out.2.2.2.2.1.c4; have zk11_5 := H9.out.2.2.2.2.1.c5) | (go_at_call 22; refine (u8 _).mono ?_; rintro e w1 ⟨rfl, hb1⟩; have HZ := hide (And.intro (H9.out.1.keep hb1) (And.intro (H9.out.2.1.keep hb1) (And.intro (H9.out.2.2.1.keep hb1) (And.intro (H9.out.2.2.2.1.keep hb1) (And.intro (H9.out.2.2.2.2.1.keep hb1) (And.intro (H9.out.2.2.2.2.2.1.keep hb1) (And.intro (H9.out.2.2.2.2.2.2.1.trans (hb1.mono H9.out.2.2.2.2.2.2.2)) (Nat.le_trans H9.out.2.2.2.2.2.2.2 hb1.size)))))))); clear H9 hb1 u8 zk7_0 zk7_1 zk7_2 zk7_3 zk7_4 zk7_5 zk8_0 zk8_1 zk8_2 zk8_3 zk8_4 zk8_5 zk9_0 zk9_1 zk9_2 zk9_3 zk9_4 zk9_5 zk11_0 zk11_1 zk11_2 zk11_3 zk11_4 zk11_5; have H9 := HZ; clear HZ; have zk7_0 := H9.out.1.c0; have zk7_1 := H9.out.1.c1; have zk7_2 := H9.out.1.c2; have zk7_3 := H9.out.1.c3; have zk7_4 := H9.out.1.c4; have zk7_5 := H9.out.1.c5; have zk8_0 := H9.out.2.1.c0; have zk8_1 := H9.out.2.1.c1; have zk8_2 := H9.out.2.1.c2; have zk8_3 := H9.out.2.1.c3; have zk8_4 := H9.out.2.1.c4; have zk8_5 := H9.out.2.1.c5; have zk9_0 := H9.out.2.2.1.c0; have zk9_1 := H9.out.2.2.1.c1; have zk9_2 := H9.out.2.2.1.c2; have zk9_3 := H9.out.2.2.1.c3; have zk9_4 := H9.out.2.2.1.c4; have zk9_5 := H9.out.2.2.1.c5; have zk11_0 := H9.out.2.2.2.2.1.c0; have zk11_1 := H9.out.2.2.2.2.1.c1; have zk11_2 := H9.out.2.2.2.2.1.c2; have zk11_3 := H9.out.2.2.2.2.1.c3; have zk11_4 := H9.out.2.2.2.2.1.c4; have zk11_5 := H9.out.2.2.2.2.1.c5))
          go_meet
          case rel => exact ⟨rfl, rfl, rfl, H9.out⟩
        · cases b4
          · go_wp2_with (first | (go_at_call 22; refine (u3 _).mono ?_; rintro e w1 ⟨rfl, hb1⟩; have HZ := hide (And.intro (H9.out.1.keep hb1) (And.intro (H9.out.2.1.keep hb1) (And.intro (H9.out.2.2.1.keep hb1) (And.intro (H9.out.2.2.2.1.keep hb1) (And.intro (H9.out.2.2.2.2.1.keep hb1) (And.intro (H9.out.2.2.2.2.2.1.keep hb1) (And.intro (H9.out.2.2.2.2.2.2.1.trans (hb1.mono H9.out.2.2.2.2.2.2.2)) (Nat.le_trans H9.out.2.2.2.2.2.2.2 hb1.size)))))))); clear H9 hb1 u3 zk7_0 zk7_1 zk7_2 zk7_3 zk7_4 zk7_5 zk8_0 zk8_1 zk8_2 zk8_3 zk8_4 zk8_5 zk9_0 zk9_1 zk9_2 zk9_3 zk9_4 zk9_5 zk11_0 zk11_1 zk11_2 zk11_3 zk11_4 zk11_5; have H9 := HZ; clear HZ; have zk7_0 := H9.out.1.c0; have zk7_1 := H9.out.1.c1; have zk7_2 := H9.out.1.c2; have zk7_3 := H9.out.1.c3; have zk7_4 := H9.out.1.c4; have zk7_5 := H9.out.1.c5; have zk8_0 := H9.out.2.1.c0; have zk8_1 := H9.out.2.1.c1; have zk8_2 := H9.out.2.1.c2; have zk8_3 := H9.out.2.1.c3; have zk8_4 := H9.out.2.1.c4; have zk8_5 := H9.out.2.1.c5; have zk9_0 := H9.out.2.2.1.c0; have zk9_1 := H9.out.2.2.1.c1; have zk9_2 := H9.out.2.2.1.c2; have zk9_3 := H9.out.2.2.1.c3; have zk9_4 := H9.out.2.2.1.c4; have zk9_5 := H9.out.2.2.1.c5; have zk11_0 := H9.out.2.2.2.2.1.c0; have zk11_1 := H9.out.2.2.2.2.1.c1; have zk11_2 := H9.out.2.2.2.2.1.c2; have zk11_3 := H9.out.2.2.2.2.1.c3; have zk11_4 := H9.out.2.2.2.2.1.c4; have zk11_5 := H9.out.2.2.2.2.1.c5) | (go_at_call 22; refine (u4 _).mono ?_; rintro e w1 ⟨rfl, hb1⟩; have HZ := hide (And.intro (H9.out.1.keep hb1) (And.intro (H9.out.2.1.keep hb1) (And.intro (H9.out.2.2.1.keep hb1) (And.intro (H9.out.2.2.2.1.keep hb1) (And.intro (H9.out.2.2.2.2.1.keep hb1) (And.intro (H9.out.2.2.2.2.2.1.keep hb1) (And.intro (H9.out.2.2.2.2.2.2.1.trans (hb1.mono H9.out.2.2.2.2.2.2.2)) (Nat.le_trans H9.out.2.2.2.2.2.2.2 hb1.size)))))))); clear H9 hb1 u4 zk7_0 zk7_1 zk7_2 zk7_3 zk7_4 zk7_5 zk8_0 zk8_1 zk8_2 zk8_3 zk8_4 zk8_5 zk9_0 zk9_1 zk9_2 zk9_3 zk9_4 zk9_5 zk11_0 zk11_1 zk11_2 zk11_3 zk11_4 zk11_5; have H9 := HZ; clear HZ; have zk7_0 := H9.out.1.c0; have zk7_1 := H9.out.1.c1; have zk7_2 := H9.out.1.c2; have zk7_3 := H9.out.1.c3; have zk7_4 := H9.out.1.c4; have zk7_5 := H9.out.1.c5; have zk8_0 := H9.out.2.1.c0; have zk8_1 := H9.out.2.1.c1; have zk8_2 := H9.out.2.1.c2; have zk8_3 := H9.out.2.1.c3; have zk8_4 := H9.out.2.1.c4; have zk8_5 := H9.out.2.1.c5; have zk9_0 := H9.out.2.2.1.c0; have zk9_1 := H9.out.2.2.1.c1; have zk9_2 := H9.out.2.2.1.c2; have zk9_3 := H9.out.2.2.1.c3; have zk9_4 := H9.out.2.2.1.c4; have zk9_5 := H9.out.2.2.1.c5; have zk11_0 := H9.out.2.2.2.2.1.c0; have zk11_1 := H9.out.2.2.2.2.1.c1; have zk11_2 := H9.out.2.2.2.2.1.c2; have zk11_3 := H9.out.2.2.2.2.1.c3; have zk11_4 := H9.out.2.2.2.2.1.c4; have zk11_5 := H9.out.2.2.2.2.1.c5) | (go_at_call 22; refine (u8 _).mono ?_; rintro e w1 ⟨rfl, hb1⟩; have HZ := hide (And.intro (H9.out.1.keep hb1) (And.intro (H9.out.2.1.keep hb1) (And.intro (H9.out.2.2.1.keep hb1) (And.intro (H9.out.2.2.2.1.keep hb1) (And.intro (H9.out.2.2.2.2.1.keep hb1) (And.intro (H9.out.2.2.2.2.2.1.keep hb1) (And.intro (H9.out.2.2.2.2.2.2.1.trans (hb1.mono H9.out.2.2.2.2.2.2.2)) (Nat.le_trans H9.out.2.2.2.2.2.2.2 hb1.size)))))))); clear H9 hb1 u8 zk7_0 zk7_1 zk7_2 zk7_3 zk7_4 zk7_5 zk8_0 zk8_1 zk8_2 zk8_3 zk8_4 zk8_5 zk9_0 zk9_1 zk9_2 zk9_3 zk9_4 zk9_5 zk11_0 zk11_1 zk11_2 zk11_3 zk11_4 zk11_5; have H9 := HZ; clear HZ; have zk7_0 := H9.out.1.c0; have zk7_1 := H9.out.1.c1; have zk7_2 := H9.out.1.c2; have zk7_3 := H9.out.1.c3; have zk7_4 := H9.out.1.c4; have zk7_5 := H9.out.1.c5; have zk8_0 := H9.out.2.1.c0; have zk8_1 := H9.out.2.1.c1; have zk8_2 := H9.out.2.1.c2; have zk8_3 := H9.out.2.1.c3; have zk8_4 := H9.out.2.1.c4; have zk8_5 := H9.out.2.1.c5; have zk9_0 := H9.out.2.2.1.c0; have zk9_1 := H9.out.2.2.1.c1; have zk9_2 := H9.out.2.2.1.c2; have zk9_3 := H9.out.2.2.1.c3; have zk9_4 := H9.out.2.2.1.c4; have zk9_5 := H9.out.2.2.1.c5; have zk11_0 := H9.out.2.2.2.2.1.c0; have zk11_1 := H9.out.2.2.2.2.1.c1; have zk11_2 := H9.out.2.2.2.2.1.c2; have zk11_3 := H9.out.2.2.2.2.1.c3; have zk11_4 := H9.out.2.2.2.2.1.c4; have zk11_5 := H9.out.2.2.2.2.1.c5))
            go_meet
            case rel => exact ⟨rfl, rfl, rfl, H9.out⟩
          · obtain ⟨rfl, rfl⟩ := F3.out rfl rfl
            go_wp2_with (first | (go_at_call 22; refine (u3 _).mono ?_; rintro e w1 ⟨rfl, hb1⟩; have HZ := hide (And.intro (H9.out.1.keep hb1) (And.intro (H9.out.2.1.keep hb1) (And.intro (H9.out.2.2.1.keep hb1) (And.intro (H9.out.2.2.2.1.keep hb1) (And.intro (H9.out.2.2.2.2.1.keep hb1) (And.intro (H9.out.2.2.2.2.2.1.keep hb1) (And.intro (H9.out.2.2.2.2.2.2.1.trans (hb1.mono H9.out.2.2.2.2.2.2.2)) (Nat.le_trans H9.out.2.2.2.2.2.2.2 hb1.size)))))))); clear H9 hb1 u3 zk7_0 zk7_1 zk7_2 zk7_3 zk7_4 zk7_5 zk8_0 zk8_1 zk8_2 zk8_3 zk8_4 zk8_5 zk9_0 zk9_1 zk9_2 zk9_3 zk9_4 zk9_5 zk11_0 zk11_1 zk11_2 zk11_3 zk11_4 zk11_5; have H9 := HZ; clear HZ; have zk7_0 := H9.out.1.c0; have zk7_1 := H9.out.1.c1; have zk7_2 := H9.out.1.c2; have zk7_3 := H9.out.1.c3; have zk7_4 := H9.out.1.c4; have zk7_5 := H9.out.1.c5; have zk8_0 := H9.out.2.1.c0; have zk8_1 := H9.out.2.1.c1; have zk8_2 := H9.out.2.1.c2; have zk8_3 := H9.out.2.1.c3; have zk8_4 := H9.out.2.1.c4; have zk8_5 := H9.out.2.1.c5; have zk9_0 := H9.out.2.2.1.c0; have zk9_1 := H9.out.2.2.1.c1; have zk9_2 := H9.out.2.2.1.c2; have zk9_3 := H9.out.2.2.1.c3; have zk9_4 := H9.out.2.2.1.c4; have zk9_5 := H9.out.2.2.1.c5; have zk11_0 := H9.out.2.2.2.2.1.c0; have zk11_1 := H9.out.2.2.2.2.1.c1; have zk11_2 := H9.out.2.2.2.2.1.c2; have zk11_3 := H9.out.2.2.2.2.1.c3; have zk11_4 := H9.out.2.2.2.2.1.c4; have zk11_5 := H9.out.2.2.2.2.1.c5) | (go_at_call 22; refine (u4 _).mono ?_; rintro e w1 ⟨rfl, hb1⟩; have HZ := hide (And.intro (H9.out.1.keep hb1) (And.intro (H9.out.2.1.keep hb1) (And.intro (H9.out.2.2.1.keep hb1) (And.intro (H9.out.2.2.2.1.keep hb1) (And.intro (H9.out.2.2.2.2.1.keep hb1) (And.intro (H9.out.2.2.2.2.2.1.keep hb1) (And.intro (H9.out.2.2.2.2.2.2.1.trans (hb1.mono H9.out.2.2.2.2.2.2.2)) (Nat.le_trans H9.out.2.2.2.2.2.2.2 hb1.size)))))))); clear H9 hb1 u4 zk7_0 zk7_1 zk7_2 zk7_3 zk7_4 zk7_5 zk8_0 zk8_1 zk8_2 zk8_3 zk8_4 zk8_5 zk9_0 zk9_1 zk9_2 zk9_3 zk9_4 zk9_5 zk11_0 zk11_1 zk11_2 zk11_3 zk11_4 zk11_5; have H9 := HZ; clear HZ; have zk7_0 := H9.out.1.c0; have zk7_1 := H9.out.1.c1; have zk7_2 := H9.out.1.c2; have zk7_3 := H9.out.1.c3; have zk7_4 := H9.out.1.c4; have zk7_5 := H9.out.1.c5; have zk8_0 := H9.out.2.1.c0; have zk8_1 := H9.out.2.1.c1; have zk8_2 := H9.out.2.1.c2; have zk8_3 := H9.out.2.1.c3; have zk8_4 := H9.out.2.1.c4; have zk8_5 := H9.out.2.1.c5; have zk9_0 := H9.out.2.2.1.c0; have zk9_1 := H9.out.2.2.1.c1; have zk9_2 := H9.out.2.2.1.c2; have zk9_3 := H9.out.2.2.1.c3; have zk9_4 := H9.out.2.2.1.c4; have zk9_5 := H9.out.2.2.1.c5; have zk11_0 := H9.out.2.2.2.2.1.c0; have zk11_1 := H9.out.2.2.2.2.1.c1; have zk11_2 := H9.out.2.2.2.2.1.c2; have zk11_3 := H9.out.2.2.2.2.1.c3; have zk11_4 := H9.out.2.2.2.2.1.c4; have zk11_5 := H9.out.2.2.2.2.1.c5) | (go_at_call 22; refine (u8 _).mono ?_; rintro e w1 ⟨rfl, hb1⟩; have HZ := hide (And.intro (H9.out.1.keep hb1) (And.intro (H9.out.2.1.keep hb1) (And.intro (H9.out.2.2.1.keep hb1) (And.intro (H9.out.2.2.2.1.keep hb1) (And.intro (H9.out.2.2.2.2.1.keep hb1) (And.intro (H9.out.2.2.2.2.2.1.keep hb1) (And.intro (H9.out.2.2.2.2.2.2.1.trans (hb1.mono H9.out.2.2.2.2.2.2.2)) (Nat.le_trans H9.out.2.2.2.2.2.2.2 hb1.size)))))))); clear H9 hb1 u8 zk7_0 zk7_1 zk7_2 zk7_3 zk7_4 zk7_5 zk8_0 zk8_1 zk8_2 zk8_3 zk8_4 zk8_5 zk9_0 zk9_1 zk9_2 zk9_3 zk9_4 zk9_5 zk11_0 zk11_1 zk11_2 zk11_3 zk11_4 zk11_5; have H9 := HZ; clear HZ; have zk7_0 := H9.out.1.c0; have zk7_1 := H9.out.1.c1; have zk7_2 := H9.out.1.c2; have zk7_3 := H9.out.1.c3; have zk7_4 := H9.out.1.c4; have zk7_5 := H9.out.1.c5; have zk8_0 := H9.out.2.1.c0; have zk8_1 := H9.out.2.1.c1; have zk8_2 := H9.out.2.1.c2; have zk8_3 := H9.out.2.1.c3; have zk8_4 := H9.out.2.1.c4; have zk8_5 := H9.out.2.1.c5; have zk9_0 := H9.out.2.2.1.c0; have zk9_1 := H9.out.2.2.1.c1; have zk9_2 := H9.out.2.2.1.c2; have zk9_3 := H9.out.2.2.1.c3; have zk9_4 := H9.out.2.2.1.c4; have zk9_5 := H9.out.2.2.1.c5; have zk11_0 := H9.out.2.2.2.2.1.c0; have zk11_1 := H9.out.2.2.2.2.1.c1; have zk11_2 := H9.out.2.2.2.2.1.c2; have zk11_3 := H9.out.2.2.2.2.1.c3; have zk11_4 := H9.out.2.2.2.2.1.c4; have zk11_5 := H9.out.2.2.2.2.1.c5))
            go_meet
            case rel => exact ⟨rfl, rfl, rfl, H9.out⟩
      case rest =>
        obtain ⟨rfl, rfl, rfl, H11⟩ := hcut
        clear H9
        clear u3 u4 u8 F3
        go_upto_region 13 with fail
        have zk9_0 := H11.out.2.2.1.c0
        have zk9_1 := H11.out.2.2.1.c1
        have zk9_2 := H11.out.2.2.1.c2
        have zk9_3 := H11.out.2.2.1.c3
        have zk9_4 := H11.out.2.2.1.c4
        have zk9_5 := H11.out.2.2.1.c5
        have zk11_0 := H11.out.2.2.2.2.1.c0
        have zk11_1 := H11.out.2.2.2.2.1.c1
        have zk11_2 := H11.out.2.2.2.2.1.c2
        have zk11_3 := H11.out.2.2.2.2.1.c3
        have zk11_4 := H11.out.2.2.2.2.1.c4
        have zk11_5 := H11.out.2.2.2.2.1.c5
        go_upto_region 14 with (go_at_call 10; refine (m3 _).mono ?_; rintro e wK ⟨rfl, hK⟩)
        go_name_world W14 hW
        have H13 : Hid (Br W14 k7 (up X.s) X.k X.n X.lo X.hi (up X.p) ∧ Br W14 k8 (up Y.s) Y.k Y.n Y.lo Y.hi (up Y.p) ∧ Br W14 k9 (up Z.s) Z.k Z.n Z.lo Z.hi (up Z.p) ∧ Br W14 k10 (up J.s) J.k J.n J.lo J.hi (up J.p) ∧ Br W14 k11 (up m.s) m.k m.n m.lo m.hi (up m.p) ∧ Br W14 k13 (up m.s) m.k m.n m.lo m.hi (up m.p) ∧ Br W14 wK.heap.size (up p.s) p.k p.n p.lo p.hi (up p.p) ∧ Below N w W14 ∧ N ≤ W14.heap.size) := by
          rw [← hW]
          have u := H11.out.2.2.2.2.2.2.1.trans (hK.mono H11.out.2.2.2.2.2.2.2)
          have l : N ≤ wK.heap.size := Nat.le_trans H11.out.2.2.2.2.2.2.2 hK.size
          exact ⟨(H11.out.1.keep hK).keep ((Below.refl _ _).alloc (Nat.le_refl _) _), (H11.out.2.1.keep hK).keep ((Below.refl _ _).alloc (Nat.le_refl _) _), (H11.out.2.2.1.keep hK).keep ((Below.refl _ _).alloc (Nat.le_refl _) _), (H11.out.2.2.2.1.keep hK).keep ((Below.refl _ _).alloc (Nat.le_refl _) _), (H11.out.2.2.2.2.1.keep hK).keep ((Below.refl _ _).alloc (Nat.le_refl _) _), (H11.out.2.2.2.2.2.1.keep hK).keep ((Below.refl _ _).alloc (Nat.le_refl _) _), Br.new _ _ _ _ _ _ _ _, u.alloc l _, by simp; omega⟩
        clear hW hK H11 zk11_0 zk11_1 zk11_2 zk11_3 zk11_4 zk11_5 zk9_0 zk9_1 zk9_2 zk9_3 zk9_4 zk9_5 m3
        generalize wK.heap.size = k15 at *
        have zk8_0 := H13.out.2.1.c0
        have zk8_1 := H13.out.2.1.c1
        have zk8_2 := H13.out.2.1.c2
        have zk8_3 := H13.out.2.1.c3
        have zk8_4 := H13.out.2.1.c4
        have zk8_5 := H13.out.2.1.c5
        have zk9_0 := H13.out.2.2.1.c0
        have zk9_1 := H13.out.2.2.1.c1
        have zk9_2 := H13.out.2.2.1.c2
        have zk9_3 := H13.out.2.2.1.c3
        have zk9_4 := H13.out.2.2.1.c4
        have zk9_5 := H13.out.2.2.1.c5
        go_upto_region 15 with (go_at_call 10; refine (m4 _).mono ?_; rintro e wK ⟨rfl, hK⟩)
        go_name_world W15 hW
        have H14 : Hid (Br W15 k7 (up X.s) X.k X.n X.lo X.hi (up X.p) ∧ Br W15 k8 (up Y.s) Y.k Y.n Y.lo Y.hi (up Y.p) ∧ Br W15 k9 (up Z.s) Z.k Z.n Z.lo Z.hi (up Z.p) ∧ Br W15 k10 (up J.s) J.k J.n J.lo J.hi (up J.p) ∧ Br W15 k11 (up m.s) m.k m.n m.lo m.hi (up m.p) ∧ Br W15 k13 (up m.s) m.k m.n m.lo m.hi (up m.p) ∧ Br W15 k15 (up p.s) p.k p.n p.lo p.hi (up p.p) ∧ Br W15 wK.heap.size (up q.s) q.k q.n q.lo q.hi (up q.p) ∧ Below N w W15 ∧ N ≤ W15.heap.size) := by
          rw [← hW]
          have u := H13.out.2.2.2.2.2.2.2.1.trans (hK.mono H13.out.2.2.2.2.2.2.2.2)
          have l : N ≤ wK.heap.size := Nat.le_trans H13.out.2.2.2.2.2.2.2.2 hK.size
          exact ⟨(H13.out.1.keep hK).keep ((Below.refl _ _).alloc (Nat.le_refl _) _), (H13.out.2.1.keep hK).keep ((Below.refl _ _).alloc (Nat.le_refl _) _), (H13.out.2.2.1.keep hK).keep ((Below.refl _ _).alloc (Nat.le_refl _) _), (H13.out.2.2.2.1.keep hK).keep ((Below.refl _ _).alloc (Nat.le_refl _) _), (H13.out.2.2.2.2.1.keep hK).keep ((Below.refl _ _).alloc (Nat.le_refl _) _), (H13.out.2.2.2.2.2.1.keep hK).keep ((Below.refl _ _).alloc (Nat.le_refl _) _), (H13.out.2.2.2.2.2.2.1.keep hK).keep ((Below.refl _ _).alloc (Nat.le_refl _) _), Br.new _ _ _ _ _ _ _ _, u.alloc l _, by simp; omega⟩
        clear hW hK H13 zk8_0 zk8_1 zk8_2 zk8_3 zk8_4 zk8_5 zk9_0 zk9_1 zk9_2 zk9_3 zk9_4 zk9_5 m4
        generalize wK.heap.size = k17 at *
        have zk7_0 := H14.out.1.c0
        have zk7_1 := H14.out.1.c1
        have zk7_2 := H14.out.1.c2
        have zk7_3 := H14.out.1.c3
        have zk7_4 := H14.out.1.c4
        have zk7_5 := H14.out.1.c5
        have zk17_0 := H14.out.2.2.2.2.2.2.2.1.c0
        have zk17_1 := H14.out.2.2.2.2.2.2.2.1.c1
        have zk17_2 := H14.out.2.2.2.2.2.2.2.1.c2
        have zk17_3 := H14.out.2.2.2.2.2.2.2.1.c3
        have zk17_4 := H14.out.2.2.2.2.2.2.2.1.c4
        have zk17_5 := H14.out.2.2.2.2.2.2.2.1.c5
        go_upto_region 16 with (go_at_call 10; refine (m5 _).mono ?_; rintro e wK ⟨rfl, hK⟩)
        go_name_world W16 hW
        have H15 : Hid (Br W16 k7 (up X.s) X.k X.n X.lo X.hi (up X.p) ∧ Br W16 k8 (up Y.s) Y.k Y.n Y.lo Y.hi (up Y.p) ∧ Br W16 k9 (up Z.s) Z.k Z.n Z.lo Z.hi (up Z.p) ∧ Br W16 k10 (up J.s) J.k J.n J.lo J.hi (up J.p) ∧ Br W16 k11 (up m.s) m.k m.n m.lo m.hi (up m.p) ∧ Br W16 k13 (up m.s) m.k m.n m.lo m.hi (up m.p) ∧ Br W16 k15 (up p.s) p.k p.n p.lo p.hi (up p.p) ∧ Br W16 k17 (up q.s) q.k q.n q.lo q.hi (up q.p) ∧ Br W16 wK.heap.size (up r.s) r.k r.n r.lo r.hi (up r.p) ∧ Below N w W16 ∧ N ≤ W16.heap.size) := by
          rw [← hW]
          have u := H14.out.2.2.2.2.2.2.2.2.1.trans (hK.mono H14.out.2.2.2.2.2.2.2.2.2)
          have l : N ≤ wK.heap.size := Nat.le_trans H14.out.2.2.2.2.2.2.2.2.2 hK.size
          exact ⟨(H14.out.1.keep hK).keep ((Below.refl _ _).alloc (Nat.le_refl _) _), (H14.out.2.1.keep hK).keep ((Below.refl _ _).alloc (Nat.le_refl _) _), (H14.out.2.2.1.keep hK).keep ((Below.refl _ _).alloc (Nat.le_refl _) _), (H14.out.2.2.2.1.keep hK).keep ((Below.refl _ _).alloc (Nat.le_refl _) _), (H14.out.2.2.2.2.1.keep hK).keep ((Below.refl _ _).alloc (Nat.le_refl _) _), (H14.out.2.2.2.2.2.1.keep hK).keep ((Below.refl _ _).alloc (Nat.le_refl _) _), (H14.out.2.2.2.2.2.2.1.keep hK).keep ((Below.refl _ _).alloc (Nat.le_refl _) _), (H14.out.2.2.2.2.2.2.2.1.keep hK).keep ((Below.refl _ _).alloc (Nat.le_refl _) _), Br.new _ _ _ _ _ _ _ _, u.alloc l _, by simp; omega⟩
        clear hW hK H14 zk7_0 zk7_1 zk7_2 zk7_3 zk7_4 zk7_5 zk17_0 zk17_1 zk17_2 zk17_3 zk17_4 zk17_5 m5
        generalize wK.heap.size = k19 at *
        have zk15_0 := H15.out.2.2.2.2.2.2.1.c0
        have zk15_1 := H15.out.2.2.2.2.2.2.1.c1
        have zk15_2 := H15.out.2.2.2.2.2.2.1.c2
        have zk15_3 := H15.out.2.2.2.2.2.2.1.c3
        have zk15_4 := H15.out.2.2.2.2.2.2.1.c4
        have zk15_5 := H15.out.2.2.2.2.2.2.1.c5
        have zk19_0 := H15.out.2.2.2.2.2.2.2.2.1.c0
        have zk19_1 := H15.out.2.2.2.2.2.2.2.2.1.c1
        have zk19_2 := H15.out.2.2.2.2.2.2.2.2.1.c2
        have zk19_3 := H15.out.2.2.2.2.2.2.2.2.1.c3
        have zk19_4 := H15.out.2.2.2.2.2.2.2.2.1.c4
        have zk19_5 := H15.out.2.2.2.2.2.2.2.2.1.c5
        have hB := H15.out.2.2.2.2.2.2.2.2.2.1
        obtain ⟨f1, f2⟩ := F4.out
        clear F4 H15
        cases ok <;> cases ip <;> cases iq <;> cases ir <;> first | (exfalso; revert f1; decide) | (obtain rfl : p = r := f2 rfl; clear f1 f2; go_wp2_with fail; go_ret; exact ⟨rfl, by rw [← HN.out]; exact hB⟩) | (clear f1 f2; go_wp2_with fail; go_ret; exact ⟨rfl, by rw [← HN.out]; exact hB⟩)
end Go.Proofs.Ytfndahdnbkmkkaa
