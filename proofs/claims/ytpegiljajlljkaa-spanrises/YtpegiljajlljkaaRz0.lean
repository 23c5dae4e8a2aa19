import Derived.Test.YtpegiljajlljkaaRz1
namespace Go.Proofs.Ytpegiljajlljkaa
open Go.RowKit
set_option maxRecDepth 100000 in
set_option maxHeartbeats 8000000 in
theorem rz0_789 (Q0 : Exit → Act → World → Prop) (hP : ∀ c (a : Act) d v w, Q0 (.panic c) (a.put d v) w → Q0 (.panic c) a w) (op al ah bl bh cl ch : Int) (P Q R : Int × Int) (N : Nat) (w0 : World) (cA : ∀ w : World, Calls Try.prog 11 #[.agg #[.int .i64 al, .int .i64 ah]] w fun e w' => e = .returned (.agg #[.int .i64 P.1, .int .i64 P.2]) ∧ New2 w w') (cB : ∀ w : World, Calls Try.prog 11 #[.agg #[.int .i64 bl, .int .i64 bh]] w fun e w' => e = .returned (.agg #[.int .i64 Q.1, .int .i64 Q.2]) ∧ New2 w w') (cC : ∀ w : World, Calls Try.prog 11 #[.agg #[.int .i64 cl, .int .i64 ch]] w fun e w' => e = .returned (.agg #[.int .i64 R.1, .int .i64 R.2]) ∧ New2 w w') (hQ : ∀ (v : World) (k7 k8 k9 : Nat), Bz v k7 P.1 P.2 → Bz v k8 Q.1 Q.2 → Bz v k9 R.1 R.2 → k7 ≠ k8 → k7 ≠ k9 → k8 ≠ k9 → Below N w0 v → Q0 .normal (rzAct op al ah bl bh cl ch N (.pointer (some ⟨k7, 0, none⟩)) (.pointer (some ⟨k8, 0, none⟩)) (.pointer (some ⟨k9, 0, none⟩)) (.pointer (some ⟨N, 0, none⟩)) (.agg #[.int .i64 al, .int .i64 ah]) (.agg #[.int .i64 P.1, .int .i64 P.2]) (.agg #[.int .i64 P.1, .int .i64 P.2]) (.pointer (some ⟨N, 2, none⟩)) (.agg #[.int .i64 bl, .int .i64 bh]) (.agg #[.int .i64 Q.1, .int .i64 Q.2]) (.agg #[.int .i64 Q.1, .int .i64 Q.2]) (.agg #[.int .i64 cl, .int .i64 ch]) (.agg #[.int .i64 R.1, .int .i64 R.2]) (.agg #[.int .i64 R.1, .int .i64 R.2])) v) (v : World) (k7 k8 k9 : Nat) (K7 : Bz v k7 0 0) (n7 : N + 1 < k7) (K8 : Bz v k8 0 0) (n8 : N + 1 < k8) (K9 : Bz v k9 0 0) (n9 : N + 1 < k9) (e78 : k7 ≠ k8) (e79 : k7 ≠ k9) (e89 : k8 ≠ k9) (hS : rzS N al ah bl bh cl ch w0 v) : wpAnyH Try.prog .any rzOps Q0 (fun w => rzS N al ah bl bh cl ch w0 w) 9 #[true, true, false, false, true, true, false, false, true, false, false, true, true, true, false, false, false] (rzAct op al ah bl bh cl ch N (.pointer (some ⟨k7, 0, none⟩)) (.pointer (some ⟨k8, 0, none⟩)) (.pointer (some ⟨k9, 0, none⟩)) (.pointer (some ⟨N, 0, none⟩)) (.agg #[.int .i64 al, .int .i64 ah]) undef undef (.pointer (some ⟨N, 2, none⟩)) (.agg #[.int .i64 bl, .int .i64 bh]) undef undef (.agg #[.int .i64 cl, .int .i64 ch]) undef undef) v := by
  refine wpAnyH_ready (rs := [2]) (by kernel_rfl) (by simp) ?_
  refine AllReadyH.cons (o := ({ dst := some 19, op := Op.call { callee := Callee.value (Operand.func 11), args := #[Operand.tmp 18], argTypes := #[23] }, type := 23, pos := "law.go:78", after := #[{ on := 1, ground := Ground.data }], guard := none } : Oper)) rfl (fun K hK => ?_) AllReadyH.nil
  · dsimp only [rzAct]
    go_simp
    go_at_call 11
    refine (bel2r (cA _)).mono ?_
    rintro e v1 ⟨rfl, hb⟩
    refine hK.out _ _ (rz_keep hS hb) (fun hS2 => ?_)
    exact wpAnyH_listed (by kernel_rfl) (rz1_789 Q0 hP op al ah bl bh cl ch P Q R N w0 cA cB cC hQ _ k7 k8 k9 (K7.keep hb) n7 (K8.keep hb) n8 (K9.keep hb) n9 e78 e79 e89 hS2)
set_option maxRecDepth 100000 in
set_option maxHeartbeats 8000000 in
theorem rz0_78 (Q0 : Exit → Act → World → Prop) (hP : ∀ c (a : Act) d v w, Q0 (.panic c) (a.put d v) w → Q0 (.panic c) a w) (op al ah bl bh cl ch : Int) (P Q R : Int × Int) (N : Nat) (w0 : World) (cA : ∀ w : World, Calls Try.prog 11 #[.agg #[.int .i64 al, .int .i64 ah]] w fun e w' => e = .returned (.agg #[.int .i64 P.1, .int .i64 P.2]) ∧ New2 w w') (cB : ∀ w : World, Calls Try.prog 11 #[.agg #[.int .i64 bl, .int .i64 bh]] w fun e w' => e = .returned (.agg #[.int .i64 Q.1, .int .i64 Q.2]) ∧ New2 w w') (cC : ∀ w : World, Calls Try.prog 11 #[.agg #[.int .i64 cl, .int .i64 ch]] w fun e w' => e = .returned (.agg #[.int .i64 R.1, .int .i64 R.2]) ∧ New2 w w') (hQ : ∀ (v : World) (k7 k8 k9 : Nat), Bz v k7 P.1 P.2 → Bz v k8 Q.1 Q.2 → Bz v k9 R.1 R.2 → k7 ≠ k8 → k7 ≠ k9 → k8 ≠ k9 → Below N w0 v → Q0 .normal (rzAct op al ah bl bh cl ch N (.pointer (some ⟨k7, 0, none⟩)) (.pointer (some ⟨k8, 0, none⟩)) (.pointer (some ⟨k9, 0, none⟩)) (.pointer (some ⟨N, 0, none⟩)) (.agg #[.int .i64 al, .int .i64 ah]) (.agg #[.int .i64 P.1, .int .i64 P.2]) (.agg #[.int .i64 P.1, .int .i64 P.2]) (.pointer (some ⟨N, 2, none⟩)) (.agg #[.int .i64 bl, .int .i64 bh]) (.agg #[.int .i64 Q.1, .int .i64 Q.2]) (.agg #[.int .i64 Q.1, .int .i64 Q.2]) (.agg #[.int .i64 cl, .int .i64 ch]) (.agg #[.int .i64 R.1, .int .i64 R.2]) (.agg #[.int .i64 R.1, .int .i64 R.2])) v) (v : World) (k7 k8 : Nat) (K7 : Bz v k7 0 0) (n7 : N + 1 < k7) (K8 : Bz v k8 0 0) (n8 : N + 1 < k8) (e78 : k7 ≠ k8) (hS : rzS N al ah bl bh cl ch w0 v) : wpAnyH Try.prog .any rzOps Q0 (fun w => rzS N al ah bl bh cl ch w0 w) 10 #[true, true, false, false, true, true, false, false, true, false, false, true, true, false, false, false, false] (rzAct op al ah bl bh cl ch N (.pointer (some ⟨k7, 0, none⟩)) (.pointer (some ⟨k8, 0, none⟩)) undef (.pointer (some ⟨N, 0, none⟩)) (.agg #[.int .i64 al, .int .i64 ah]) undef undef (.pointer (some ⟨N, 2, none⟩)) (.agg #[.int .i64 bl, .int .i64 bh]) undef undef (.agg #[.int .i64 cl, .int .i64 ch]) undef undef) v := by
  refine wpAnyH_ready (rs := [2, 13]) (by kernel_rfl) (by simp) ?_
  refine AllReadyH.cons (o := ({ dst := some 19, op := Op.call { callee := Callee.value (Operand.func 11), args := #[Operand.tmp 18], argTypes := #[23] }, type := 23, pos := "law.go:78", after := #[{ on := 1, ground := Ground.data }], guard := none } : Oper)) rfl (fun K hK => ?_) (AllReadyH.cons (o := ({ dst := some 9, op := Op.alloc 25, type := 0, pos := "law.go:78", after := #[], guard := none } : Oper)) rfl (fun K hK => ?_) AllReadyH.nil)
  · dsimp only [rzAct]
    go_simp
    go_at_call 11
    refine (bel2r (cA _)).mono ?_
    rintro e v1 ⟨rfl, hb⟩
    refine hK.out _ _ (rz_keep hS hb) (fun hS2 => ?_)
    exact wpAnyH_listed (by kernel_rfl) (rz1_78 Q0 hP op al ah bl bh cl ch P Q R N w0 cA cB cC hQ _ k7 k8 (K7.keep hb) n7 (K8.keep hb) n8 e78 hS2)
  · dsimp only [rzAct]
    go_simp
    have hb : Below v.heap.size v (v.alloc (.cells #[.int .i64 0, .int .i64 0] 25)) := (Below.refl _ _).alloc (Nat.le_refl _) _
    refine hK.out _ _ (rz_keep hS hb) (fun hS2 => ?_)
    exact wpAnyH_listed (by kernel_rfl) (rz0_789 Q0 hP op al ah bl bh cl ch P Q R N w0 cA cB cC hQ _ k7 k8 v.heap.size (K7.keep hb) n7 (K8.keep hb) n8 (Bz.new v 0 0 25) hS.2.2.2.2.2.2.1 e78 (Nat.ne_of_lt K7.1.lt) (Nat.ne_of_lt K8.1.lt) hS2)
set_option maxRecDepth 100000 in
set_option maxHeartbeats 8000000 in
theorem rz0_79 (Q0 : Exit → Act → World → Prop) (hP : ∀ c (a : Act) d v w, Q0 (.panic c) (a.put d v) w → Q0 (.panic c) a w) (op al ah bl bh cl ch : Int) (P Q R : Int × Int) (N : Nat) (w0 : World) (cA : ∀ w : World, Calls Try.prog 11 #[.agg #[.int .i64 al, .int .i64 ah]] w fun e w' => e = .returned (.agg #[.int .i64 P.1, .int .i64 P.2]) ∧ New2 w w') (cB : ∀ w : World, Calls Try.prog 11 #[.agg #[.int .i64 bl, .int .i64 bh]] w fun e w' => e = .returned (.agg #[.int .i64 Q.1, .int .i64 Q.2]) ∧ New2 w w') (cC : ∀ w : World, Calls Try.prog 11 #[.agg #[.int .i64 cl, .int .i64 ch]] w fun e w' => e = .returned (.agg #[.int .i64 R.1, .int .i64 R.2]) ∧ New2 w w') (hQ : ∀ (v : World) (k7 k8 k9 : Nat), Bz v k7 P.1 P.2 → Bz v k8 Q.1 Q.2 → Bz v k9 R.1 R.2 → k7 ≠ k8 → k7 ≠ k9 → k8 ≠ k9 → Below N w0 v → Q0 .normal (rzAct op al ah bl bh cl ch N (.pointer (some ⟨k7, 0, none⟩)) (.pointer (some ⟨k8, 0, none⟩)) (.pointer (some ⟨k9, 0, none⟩)) (.pointer (some ⟨N, 0, none⟩)) (.agg #[.int .i64 al, .int .i64 ah]) (.agg #[.int .i64 P.1, .int .i64 P.2]) (.agg #[.int .i64 P.1, .int .i64 P.2]) (.pointer (some ⟨N, 2, none⟩)) (.agg #[.int .i64 bl, .int .i64 bh]) (.agg #[.int .i64 Q.1, .int .i64 Q.2]) (.agg #[.int .i64 Q.1, .int .i64 Q.2]) (.agg #[.int .i64 cl, .int .i64 ch]) (.agg #[.int .i64 R.1, .int .i64 R.2]) (.agg #[.int .i64 R.1, .int .i64 R.2])) v) (v : World) (k7 k9 : Nat) (K7 : Bz v k7 0 0) (n7 : N + 1 < k7) (K9 : Bz v k9 0 0) (n9 : N + 1 < k9) (e79 : k7 ≠ k9) (hS : rzS N al ah bl bh cl ch w0 v) : wpAnyH Try.prog .any rzOps Q0 (fun w => rzS N al ah bl bh cl ch w0 w) 10 #[true, true, false, false, true, true, false, false, true, false, false, true, false, true, false, false, false] (rzAct op al ah bl bh cl ch N (.pointer (some ⟨k7, 0, none⟩)) undef (.pointer (some ⟨k9, 0, none⟩)) (.pointer (some ⟨N, 0, none⟩)) (.agg #[.int .i64 al, .int .i64 ah]) undef undef (.pointer (some ⟨N, 2, none⟩)) (.agg #[.int .i64 bl, .int .i64 bh]) undef undef (.agg #[.int .i64 cl, .int .i64 ch]) undef undef) v := by
  refine wpAnyH_ready (rs := [2, 12]) (by kernel_rfl) (by simp) ?_
  refine AllReadyH.cons (o := ({ dst := some 19, op := Op.call { callee := Callee.value (Operand.func 11), args := #[Operand.tmp 18], argTypes := #[23] }, type := 23, pos := "law.go:78", after := #[{ on := 1, ground := Ground.data }], guard := none } : Oper)) rfl (fun K hK => ?_) (AllReadyH.cons (o := ({ dst := some 8, op := Op.alloc 25, type := 0, pos := "law.go:78", after := #[], guard := none } : Oper)) rfl (fun K hK => ?_) AllReadyH.nil)
  · dsimp only [rzAct]
    go_simp
    go_at_call 11
    refine (bel2r (cA _)).mono ?_
    rintro e v1 ⟨rfl, hb⟩
    refine hK.out _ _ (rz_keep hS hb) (fun hS2 => ?_)
    exact wpAnyH_listed (by kernel_rfl) (rz1_79 Q0 hP op al ah bl bh cl ch P Q R N w0 cA cB cC hQ _ k7 k9 (K7.keep hb) n7 (K9.keep hb) n9 e79 hS2)
  · dsimp only [rzAct]
    go_simp
    have hb : Below v.heap.size v (v.alloc (.cells #[.int .i64 0, .int .i64 0] 25)) := (Below.refl _ _).alloc (Nat.le_refl _) _
    refine hK.out _ _ (rz_keep hS hb) (fun hS2 => ?_)
    exact wpAnyH_listed (by kernel_rfl) (rz0_789 Q0 hP op al ah bl bh cl ch P Q R N w0 cA cB cC hQ _ k7 v.heap.size k9 (K7.keep hb) n7 (Bz.new v 0 0 25) hS.2.2.2.2.2.2.1 (K9.keep hb) n9 (Nat.ne_of_lt K7.1.lt) e79 (Nat.ne_of_gt K9.1.lt) hS2)
set_option maxRecDepth 100000 in
set_option maxHeartbeats 8000000 in
theorem rz0_89 (Q0 : Exit → Act → World → Prop) (hP : ∀ c (a : Act) d v w, Q0 (.panic c) (a.put d v) w → Q0 (.panic c) a w) (op al ah bl bh cl ch : Int) (P Q R : Int × Int) (N : Nat) (w0 : World) (cA : ∀ w : World, Calls Try.prog 11 #[.agg #[.int .i64 al, .int .i64 ah]] w fun e w' => e = .returned (.agg #[.int .i64 P.1, .int .i64 P.2]) ∧ New2 w w') (cB : ∀ w : World, Calls Try.prog 11 #[.agg #[.int .i64 bl, .int .i64 bh]] w fun e w' => e = .returned (.agg #[.int .i64 Q.1, .int .i64 Q.2]) ∧ New2 w w') (cC : ∀ w : World, Calls Try.prog 11 #[.agg #[.int .i64 cl, .int .i64 ch]] w fun e w' => e = .returned (.agg #[.int .i64 R.1, .int .i64 R.2]) ∧ New2 w w') (hQ : ∀ (v : World) (k7 k8 k9 : Nat), Bz v k7 P.1 P.2 → Bz v k8 Q.1 Q.2 → Bz v k9 R.1 R.2 → k7 ≠ k8 → k7 ≠ k9 → k8 ≠ k9 → Below N w0 v → Q0 .normal (rzAct op al ah bl bh cl ch N (.pointer (some ⟨k7, 0, none⟩)) (.pointer (some ⟨k8, 0, none⟩)) (.pointer (some ⟨k9, 0, none⟩)) (.pointer (some ⟨N, 0, none⟩)) (.agg #[.int .i64 al, .int .i64 ah]) (.agg #[.int .i64 P.1, .int .i64 P.2]) (.agg #[.int .i64 P.1, .int .i64 P.2]) (.pointer (some ⟨N, 2, none⟩)) (.agg #[.int .i64 bl, .int .i64 bh]) (.agg #[.int .i64 Q.1, .int .i64 Q.2]) (.agg #[.int .i64 Q.1, .int .i64 Q.2]) (.agg #[.int .i64 cl, .int .i64 ch]) (.agg #[.int .i64 R.1, .int .i64 R.2]) (.agg #[.int .i64 R.1, .int .i64 R.2])) v) (v : World) (k8 k9 : Nat) (K8 : Bz v k8 0 0) (n8 : N + 1 < k8) (K9 : Bz v k9 0 0) (n9 : N + 1 < k9) (e89 : k8 ≠ k9) (hS : rzS N al ah bl bh cl ch w0 v) : wpAnyH Try.prog .any rzOps Q0 (fun w => rzS N al ah bl bh cl ch w0 w) 10 #[true, true, false, false, true, true, false, false, true, false, false, false, true, true, false, false, false] (rzAct op al ah bl bh cl ch N undef (.pointer (some ⟨k8, 0, none⟩)) (.pointer (some ⟨k9, 0, none⟩)) (.pointer (some ⟨N, 0, none⟩)) (.agg #[.int .i64 al, .int .i64 ah]) undef undef (.pointer (some ⟨N, 2, none⟩)) (.agg #[.int .i64 bl, .int .i64 bh]) undef undef (.agg #[.int .i64 cl, .int .i64 ch]) undef undef) v := by
  refine wpAnyH_ready (rs := [2, 11]) (by kernel_rfl) (by simp) ?_
  refine AllReadyH.cons (o := ({ dst := some 19, op := Op.call { callee := Callee.value (Operand.func 11), args := #[Operand.tmp 18], argTypes := #[23] }, type := 23, pos := "law.go:78", after := #[{ on := 1, ground := Ground.data }], guard := none } : Oper)) rfl (fun K hK => ?_) (AllReadyH.cons (o := ({ dst := some 7, op := Op.alloc 25, type := 0, pos := "law.go:78", after := #[], guard := none } : Oper)) rfl (fun K hK => ?_) AllReadyH.nil)
  · dsimp only [rzAct]
    go_simp
    go_at_call 11
    refine (bel2r (cA _)).mono ?_
    rintro e v1 ⟨rfl, hb⟩
    refine hK.out _ _ (rz_keep hS hb) (fun hS2 => ?_)
    exact wpAnyH_listed (by kernel_rfl) (rz1_89 Q0 hP op al ah bl bh cl ch P Q R N w0 cA cB cC hQ _ k8 k9 (K8.keep hb) n8 (K9.keep hb) n9 e89 hS2)
  · dsimp only [rzAct]
    go_simp
    have hb : Below v.heap.size v (v.alloc (.cells #[.int .i64 0, .int .i64 0] 25)) := (Below.refl _ _).alloc (Nat.le_refl _) _
    refine hK.out _ _ (rz_keep hS hb) (fun hS2 => ?_)
    exact wpAnyH_listed (by kernel_rfl) (rz0_789 Q0 hP op al ah bl bh cl ch P Q R N w0 cA cB cC hQ _ v.heap.size k8 k9 (Bz.new v 0 0 25) hS.2.2.2.2.2.2.1 (K8.keep hb) n8 (K9.keep hb) n9 (Nat.ne_of_gt K8.1.lt) (Nat.ne_of_gt K9.1.lt) e89 hS2)
set_option maxRecDepth 100000 in
set_option maxHeartbeats 8000000 in
theorem rz0_7 (Q0 : Exit → Act → World → Prop) (hP : ∀ c (a : Act) d v w, Q0 (.panic c) (a.put d v) w → Q0 (.panic c) a w) (op al ah bl bh cl ch : Int) (P Q R : Int × Int) (N : Nat) (w0 : World) (cA : ∀ w : World, Calls Try.prog 11 #[.agg #[.int .i64 al, .int .i64 ah]] w fun e w' => e = .returned (.agg #[.int .i64 P.1, .int .i64 P.2]) ∧ New2 w w') (cB : ∀ w : World, Calls Try.prog 11 #[.agg #[.int .i64 bl, .int .i64 bh]] w fun e w' => e = .returned (.agg #[.int .i64 Q.1, .int .i64 Q.2]) ∧ New2 w w') (cC : ∀ w : World, Calls Try.prog 11 #[.agg #[.int .i64 cl, .int .i64 ch]] w fun e w' => e = .returned (.agg #[.int .i64 R.1, .int .i64 R.2]) ∧ New2 w w') (hQ : ∀ (v : World) (k7 k8 k9 : Nat), Bz v k7 P.1 P.2 → Bz v k8 Q.1 Q.2 → Bz v k9 R.1 R.2 → k7 ≠ k8 → k7 ≠ k9 → k8 ≠ k9 → Below N w0 v → Q0 .normal (rzAct op al ah bl bh cl ch N (.pointer (some ⟨k7, 0, none⟩)) (.pointer (some ⟨k8, 0, none⟩)) (.pointer (some ⟨k9, 0, none⟩)) (.pointer (some ⟨N, 0, none⟩)) (.agg #[.int .i64 al, .int .i64 ah]) (.agg #[.int .i64 P.1, .int .i64 P.2]) (.agg #[.int .i64 P.1, .int .i64 P.2]) (.pointer (some ⟨N, 2, none⟩)) (.agg #[.int .i64 bl, .int .i64 bh]) (.agg #[.int .i64 Q.1, .int .i64 Q.2]) (.agg #[.int .i64 Q.1, .int .i64 Q.2]) (.agg #[.int .i64 cl, .int .i64 ch]) (.agg #[.int .i64 R.1, .int .i64 R.2]) (.agg #[.int .i64 R.1, .int .i64 R.2])) v) (v : World) (k7 : Nat) (K7 : Bz v k7 0 0) (n7 : N + 1 < k7)  (hS : rzS N al ah bl bh cl ch w0 v) : wpAnyH Try.prog .any rzOps Q0 (fun w => rzS N al ah bl bh cl ch w0 w) 11 #[true, true, false, false, true, true, false, false, true, false, false, true, false, false, false, false, false] (rzAct op al ah bl bh cl ch N (.pointer (some ⟨k7, 0, none⟩)) undef undef (.pointer (some ⟨N, 0, none⟩)) (.agg #[.int .i64 al, .int .i64 ah]) undef undef (.pointer (some ⟨N, 2, none⟩)) (.agg #[.int .i64 bl, .int .i64 bh]) undef undef (.agg #[.int .i64 cl, .int .i64 ch]) undef undef) v := by
  refine wpAnyH_ready (rs := [2, 12, 13]) (by kernel_rfl) (by simp) ?_
  refine AllReadyH.cons (o := ({ dst := some 19, op := Op.call { callee := Callee.value (Operand.func 11), args := #[Operand.tmp 18], argTypes := #[23] }, type := 23, pos := "law.go:78", after := #[{ on := 1, ground := Ground.data }], guard := none } : Oper)) rfl (fun K hK => ?_) (AllReadyH.cons (o := ({ dst := some 8, op := Op.alloc 25, type := 0, pos := "law.go:78", after := #[], guard := none } : Oper)) rfl (fun K hK => ?_) (AllReadyH.cons (o := ({ dst := some 9, op := Op.alloc 25, type := 0, pos := "law.go:78", after := #[], guard := none } : Oper)) rfl (fun K hK => ?_) AllReadyH.nil))
  · dsimp only [rzAct]
    go_simp
    go_at_call 11
    refine (bel2r (cA _)).mono ?_
    rintro e v1 ⟨rfl, hb⟩
    refine hK.out _ _ (rz_keep hS hb) (fun hS2 => ?_)
    exact wpAnyH_listed (by kernel_rfl) (rz1_7 Q0 hP op al ah bl bh cl ch P Q R N w0 cA cB cC hQ _ k7 (K7.keep hb) n7  hS2)
  · dsimp only [rzAct]
    go_simp
    have hb : Below v.heap.size v (v.alloc (.cells #[.int .i64 0, .int .i64 0] 25)) := (Below.refl _ _).alloc (Nat.le_refl _) _
    refine hK.out _ _ (rz_keep hS hb) (fun hS2 => ?_)
    exact wpAnyH_listed (by kernel_rfl) (rz0_78 Q0 hP op al ah bl bh cl ch P Q R N w0 cA cB cC hQ _ k7 v.heap.size (K7.keep hb) n7 (Bz.new v 0 0 25) hS.2.2.2.2.2.2.1 (Nat.ne_of_lt K7.1.lt) hS2)
  · dsimp only [rzAct]
    go_simp
    have hb : Below v.heap.size v (v.alloc (.cells #[.int .i64 0, .int .i64 0] 25)) := (Below.refl _ _).alloc (Nat.le_refl _) _
    refine hK.out _ _ (rz_keep hS hb) (fun hS2 => ?_)
    exact wpAnyH_listed (by kernel_rfl) (rz0_79 Q0 hP op al ah bl bh cl ch P Q R N w0 cA cB cC hQ _ k7 v.heap.size (K7.keep hb) n7 (Bz.new v 0 0 25) hS.2.2.2.2.2.2.1 (Nat.ne_of_lt K7.1.lt) hS2)
set_option maxRecDepth 100000 in
set_option maxHeartbeats 8000000 in
theorem rz0_8 (Q0 : Exit → Act → World → Prop) (hP : ∀ c (a : Act) d v w, Q0 (.panic c) (a.put d v) w → Q0 (.panic c) a w) (op al ah bl bh cl ch : Int) (P Q R : Int × Int) (N : Nat) (w0 : World) (cA : ∀ w : World, Calls Try.prog 11 #[.agg #[.int .i64 al, .int .i64 ah]] w fun e w' => e = .returned (.agg #[.int .i64 P.1, .int .i64 P.2]) ∧ New2 w w') (cB : ∀ w : World, Calls Try.prog 11 #[.agg #[.int .i64 bl, .int .i64 bh]] w fun e w' => e = .returned (.agg #[.int .i64 Q.1, .int .i64 Q.2]) ∧ New2 w w') (cC : ∀ w : World, Calls Try.prog 11 #[.agg #[.int .i64 cl, .int .i64 ch]] w fun e w' => e = .returned (.agg #[.int .i64 R.1, .int .i64 R.2]) ∧ New2 w w') (hQ : ∀ (v : World) (k7 k8 k9 : Nat), Bz v k7 P.1 P.2 → Bz v k8 Q.1 Q.2 → Bz v k9 R.1 R.2 → k7 ≠ k8 → k7 ≠ k9 → k8 ≠ k9 → Below N w0 v → Q0 .normal (rzAct op al ah bl bh cl ch N (.pointer (some ⟨k7, 0, none⟩)) (.pointer (some ⟨k8, 0, none⟩)) (.pointer (some ⟨k9, 0, none⟩)) (.pointer (some ⟨N, 0, none⟩)) (.agg #[.int .i64 al, .int .i64 ah]) (.agg #[.int .i64 P.1, .int .i64 P.2]) (.agg #[.int .i64 P.1, .int .i64 P.2]) (.pointer (some ⟨N, 2, none⟩)) (.agg #[.int .i64 bl, .int .i64 bh]) (.agg #[.int .i64 Q.1, .int .i64 Q.2]) (.agg #[.int .i64 Q.1, .int .i64 Q.2]) (.agg #[.int .i64 cl, .int .i64 ch]) (.agg #[.int .i64 R.1, .int .i64 R.2]) (.agg #[.int .i64 R.1, .int .i64 R.2])) v) (v : World) (k8 : Nat) (K8 : Bz v k8 0 0) (n8 : N + 1 < k8)  (hS : rzS N al ah bl bh cl ch w0 v) : wpAnyH Try.prog .any rzOps Q0 (fun w => rzS N al ah bl bh cl ch w0 w) 11 #[true, true, false, false, true, true, false, false, true, false, false, false, true, false, false, false, false] (rzAct op al ah bl bh cl ch N undef (.pointer (some ⟨k8, 0, none⟩)) undef (.pointer (some ⟨N, 0, none⟩)) (.agg #[.int .i64 al, .int .i64 ah]) undef undef (.pointer (some ⟨N, 2, none⟩)) (.agg #[.int .i64 bl, .int .i64 bh]) undef undef (.agg #[.int .i64 cl, .int .i64 ch]) undef undef) v := by
  refine wpAnyH_ready (rs := [2, 11, 13]) (by kernel_rfl) (by simp) ?_
  refine AllReadyH.cons (o := ({ dst := some 19, op := Op.call { callee := Callee.value (Operand.func 11), args := #[Operand.tmp 18], argTypes := #[23] }, type := 23, pos := "law.go:78", after := #[{ on := 1, ground := Ground.data }], guard := none } : Oper)) rfl (fun K hK => ?_) (AllReadyH.cons (o := ({ dst := some 7, op := Op.alloc 25, type := 0, pos := "law.go:78", after := #[], guard := none } : Oper)) rfl (fun K hK => ?_) (AllReadyH.cons (o := ({ dst := some 9, op := Op.alloc 25, type := 0, pos := "law.go:78", after := #[], guard := none } : Oper)) rfl (fun K hK => ?_) AllReadyH.nil))
  · dsimp only [rzAct]
    go_simp
    go_at_call 11
    refine (bel2r (cA _)).mono ?_
    rintro e v1 ⟨rfl, hb⟩
    refine hK.out _ _ (rz_keep hS hb) (fun hS2 => ?_)
    exact wpAnyH_listed (by kernel_rfl) (rz1_8 Q0 hP op al ah bl bh cl ch P Q R N w0 cA cB cC hQ _ k8 (K8.keep hb) n8  hS2)
  · dsimp only [rzAct]
    go_simp
    have hb : Below v.heap.size v (v.alloc (.cells #[.int .i64 0, .int .i64 0] 25)) := (Below.refl _ _).alloc (Nat.le_refl _) _
    refine hK.out _ _ (rz_keep hS hb) (fun hS2 => ?_)
    exact wpAnyH_listed (by kernel_rfl) (rz0_78 Q0 hP op al ah bl bh cl ch P Q R N w0 cA cB cC hQ _ v.heap.size k8 (Bz.new v 0 0 25) hS.2.2.2.2.2.2.1 (K8.keep hb) n8 (Nat.ne_of_gt K8.1.lt) hS2)
  · dsimp only [rzAct]
    go_simp
    have hb : Below v.heap.size v (v.alloc (.cells #[.int .i64 0, .int .i64 0] 25)) := (Below.refl _ _).alloc (Nat.le_refl _) _
    refine hK.out _ _ (rz_keep hS hb) (fun hS2 => ?_)
    exact wpAnyH_listed (by kernel_rfl) (rz0_89 Q0 hP op al ah bl bh cl ch P Q R N w0 cA cB cC hQ _ k8 v.heap.size (K8.keep hb) n8 (Bz.new v 0 0 25) hS.2.2.2.2.2.2.1 (Nat.ne_of_lt K8.1.lt) hS2)
set_option maxRecDepth 100000 in
set_option maxHeartbeats 8000000 in
theorem rz0_9 (Q0 : Exit → Act → World → Prop) (hP : ∀ c (a : Act) d v w, Q0 (.panic c) (a.put d v) w → Q0 (.panic c) a w) (op al ah bl bh cl ch : Int) (P Q R : Int × Int) (N : Nat) (w0 : World) (cA : ∀ w : World, Calls Try.prog 11 #[.agg #[.int .i64 al, .int .i64 ah]] w fun e w' => e = .returned (.agg #[.int .i64 P.1, .int .i64 P.2]) ∧ New2 w w') (cB : ∀ w : World, Calls Try.prog 11 #[.agg #[.int .i64 bl, .int .i64 bh]] w fun e w' => e = .returned (.agg #[.int .i64 Q.1, .int .i64 Q.2]) ∧ New2 w w') (cC : ∀ w : World, Calls Try.prog 11 #[.agg #[.int .i64 cl, .int .i64 ch]] w fun e w' => e = .returned (.agg #[.int .i64 R.1, .int .i64 R.2]) ∧ New2 w w') (hQ : ∀ (v : World) (k7 k8 k9 : Nat), Bz v k7 P.1 P.2 → Bz v k8 Q.1 Q.2 → Bz v k9 R.1 R.2 → k7 ≠ k8 → k7 ≠ k9 → k8 ≠ k9 → Below N w0 v → Q0 .normal (rzAct op al ah bl bh cl ch N (.pointer (some ⟨k7, 0, none⟩)) (.pointer (some ⟨k8, 0, none⟩)) (.pointer (some ⟨k9, 0, none⟩)) (.pointer (some ⟨N, 0, none⟩)) (.agg #[.int .i64 al, .int .i64 ah]) (.agg #[.int .i64 P.1, .int .i64 P.2]) (.agg #[.int .i64 P.1, .int .i64 P.2]) (.pointer (some ⟨N, 2, none⟩)) (.agg #[.int .i64 bl, .int .i64 bh]) (.agg #[.int .i64 Q.1, .int .i64 Q.2]) (.agg #[.int .i64 Q.1, .int .i64 Q.2]) (.agg #[.int .i64 cl, .int .i64 ch]) (.agg #[.int .i64 R.1, .int .i64 R.2]) (.agg #[.int .i64 R.1, .int .i64 R.2])) v) (v : World) (k9 : Nat) (K9 : Bz v k9 0 0) (n9 : N + 1 < k9)  (hS : rzS N al ah bl bh cl ch w0 v) : wpAnyH Try.prog .any rzOps Q0 (fun w => rzS N al ah bl bh cl ch w0 w) 11 #[true, true, false, false, true, true, false, false, true, false, false, false, false, true, false, false, false] (rzAct op al ah bl bh cl ch N undef undef (.pointer (some ⟨k9, 0, none⟩)) (.pointer (some ⟨N, 0, none⟩)) (.agg #[.int .i64 al, .int .i64 ah]) undef undef (.pointer (some ⟨N, 2, none⟩)) (.agg #[.int .i64 bl, .int .i64 bh]) undef undef (.agg #[.int .i64 cl, .int .i64 ch]) undef undef) v := by
  refine wpAnyH_ready (rs := [2, 11, 12]) (by kernel_rfl) (by simp) ?_
  refine AllReadyH.cons (o := ({ dst := some 19, op := Op.call { callee := Callee.value (Operand.func 11), args := #[Operand.tmp 18], argTypes := #[23] }, type := 23, pos := "law.go:78", after := #[{ on := 1, ground := Ground.data }], guard := none } : Oper)) rfl (fun K hK => ?_) (AllReadyH.cons (o := ({ dst := some 7, op := Op.alloc 25, type := 0, pos := "law.go:78", after := #[], guard := none } : Oper)) rfl (fun K hK => ?_) (AllReadyH.cons (o := ({ dst := some 8, op := Op.alloc 25, type := 0, pos := "law.go:78", after := #[], guard := none } : Oper)) rfl (fun K hK => ?_) AllReadyH.nil))
  · dsimp only [rzAct]
    go_simp
    go_at_call 11
    refine (bel2r (cA _)).mono ?_
    rintro e v1 ⟨rfl, hb⟩
    refine hK.out _ _ (rz_keep hS hb) (fun hS2 => ?_)
    exact wpAnyH_listed (by kernel_rfl) (rz1_9 Q0 hP op al ah bl bh cl ch P Q R N w0 cA cB cC hQ _ k9 (K9.keep hb) n9  hS2)
  · dsimp only [rzAct]
    go_simp
    have hb : Below v.heap.size v (v.alloc (.cells #[.int .i64 0, .int .i64 0] 25)) := (Below.refl _ _).alloc (Nat.le_refl _) _
    refine hK.out _ _ (rz_keep hS hb) (fun hS2 => ?_)
    exact wpAnyH_listed (by kernel_rfl) (rz0_79 Q0 hP op al ah bl bh cl ch P Q R N w0 cA cB cC hQ _ v.heap.size k9 (Bz.new v 0 0 25) hS.2.2.2.2.2.2.1 (K9.keep hb) n9 (Nat.ne_of_gt K9.1.lt) hS2)
  · dsimp only [rzAct]
    go_simp
    have hb : Below v.heap.size v (v.alloc (.cells #[.int .i64 0, .int .i64 0] 25)) := (Below.refl _ _).alloc (Nat.le_refl _) _
    refine hK.out _ _ (rz_keep hS hb) (fun hS2 => ?_)
    exact wpAnyH_listed (by kernel_rfl) (rz0_89 Q0 hP op al ah bl bh cl ch P Q R N w0 cA cB cC hQ _ v.heap.size k9 (Bz.new v 0 0 25) hS.2.2.2.2.2.2.1 (K9.keep hb) n9 (Nat.ne_of_gt K9.1.lt) hS2)
set_option maxRecDepth 100000 in
set_option maxHeartbeats 8000000 in
theorem rz0_n (Q0 : Exit → Act → World → Prop) (hP : ∀ c (a : Act) d v w, Q0 (.panic c) (a.put d v) w → Q0 (.panic c) a w) (op al ah bl bh cl ch : Int) (P Q R : Int × Int) (N : Nat) (w0 : World) (cA : ∀ w : World, Calls Try.prog 11 #[.agg #[.int .i64 al, .int .i64 ah]] w fun e w' => e = .returned (.agg #[.int .i64 P.1, .int .i64 P.2]) ∧ New2 w w') (cB : ∀ w : World, Calls Try.prog 11 #[.agg #[.int .i64 bl, .int .i64 bh]] w fun e w' => e = .returned (.agg #[.int .i64 Q.1, .int .i64 Q.2]) ∧ New2 w w') (cC : ∀ w : World, Calls Try.prog 11 #[.agg #[.int .i64 cl, .int .i64 ch]] w fun e w' => e = .returned (.agg #[.int .i64 R.1, .int .i64 R.2]) ∧ New2 w w') (hQ : ∀ (v : World) (k7 k8 k9 : Nat), Bz v k7 P.1 P.2 → Bz v k8 Q.1 Q.2 → Bz v k9 R.1 R.2 → k7 ≠ k8 → k7 ≠ k9 → k8 ≠ k9 → Below N w0 v → Q0 .normal (rzAct op al ah bl bh cl ch N (.pointer (some ⟨k7, 0, none⟩)) (.pointer (some ⟨k8, 0, none⟩)) (.pointer (some ⟨k9, 0, none⟩)) (.pointer (some ⟨N, 0, none⟩)) (.agg #[.int .i64 al, .int .i64 ah]) (.agg #[.int .i64 P.1, .int .i64 P.2]) (.agg #[.int .i64 P.1, .int .i64 P.2]) (.pointer (some ⟨N, 2, none⟩)) (.agg #[.int .i64 bl, .int .i64 bh]) (.agg #[.int .i64 Q.1, .int .i64 Q.2]) (.agg #[.int .i64 Q.1, .int .i64 Q.2]) (.agg #[.int .i64 cl, .int .i64 ch]) (.agg #[.int .i64 R.1, .int .i64 R.2]) (.agg #[.int .i64 R.1, .int .i64 R.2])) v) (v : World)   (hS : rzS N al ah bl bh cl ch w0 v) : wpAnyH Try.prog .any rzOps Q0 (fun w => rzS N al ah bl bh cl ch w0 w) 12 #[true, true, false, false, true, true, false, false, true, false, false, false, false, false, false, false, false] (rzAct op al ah bl bh cl ch N undef undef undef (.pointer (some ⟨N, 0, none⟩)) (.agg #[.int .i64 al, .int .i64 ah]) undef undef (.pointer (some ⟨N, 2, none⟩)) (.agg #[.int .i64 bl, .int .i64 bh]) undef undef (.agg #[.int .i64 cl, .int .i64 ch]) undef undef) v := by
  refine wpAnyH_ready (rs := [2, 11, 12, 13]) (by kernel_rfl) (by simp) ?_
  refine AllReadyH.cons (o := ({ dst := some 19, op := Op.call { callee := Callee.value (Operand.func 11), args := #[Operand.tmp 18], argTypes := #[23] }, type := 23, pos := "law.go:78", after := #[{ on := 1, ground := Ground.data }], guard := none } : Oper)) rfl (fun K hK => ?_) (AllReadyH.cons (o := ({ dst := some 7, op := Op.alloc 25, type := 0, pos := "law.go:78", after := #[], guard := none } : Oper)) rfl (fun K hK => ?_) (AllReadyH.cons (o := ({ dst := some 8, op := Op.alloc 25, type := 0, pos := "law.go:78", after := #[], guard := none } : Oper)) rfl (fun K hK => ?_) (AllReadyH.cons (o := ({ dst := some 9, op := Op.alloc 25, type := 0, pos := "law.go:78", after := #[], guard := none } : Oper)) rfl (fun K hK => ?_) AllReadyH.nil)))
  · dsimp only [rzAct]
    go_simp
    go_at_call 11
    refine (bel2r (cA _)).mono ?_
    rintro e v1 ⟨rfl, hb⟩
    refine hK.out _ _ (rz_keep hS hb) (fun hS2 => ?_)
    exact wpAnyH_listed (by kernel_rfl) (rz1_n Q0 hP op al ah bl bh cl ch P Q R N w0 cA cB cC hQ _    hS2)
  · dsimp only [rzAct]
    go_simp
    have hb : Below v.heap.size v (v.alloc (.cells #[.int .i64 0, .int .i64 0] 25)) := (Below.refl _ _).alloc (Nat.le_refl _) _
    refine hK.out _ _ (rz_keep hS hb) (fun hS2 => ?_)
    exact wpAnyH_listed (by kernel_rfl) (rz0_7 Q0 hP op al ah bl bh cl ch P Q R N w0 cA cB cC hQ _ v.heap.size (Bz.new v 0 0 25) hS.2.2.2.2.2.2.1  hS2)
  · dsimp only [rzAct]
    go_simp
    have hb : Below v.heap.size v (v.alloc (.cells #[.int .i64 0, .int .i64 0] 25)) := (Below.refl _ _).alloc (Nat.le_refl _) _
    refine hK.out _ _ (rz_keep hS hb) (fun hS2 => ?_)
    exact wpAnyH_listed (by kernel_rfl) (rz0_8 Q0 hP op al ah bl bh cl ch P Q R N w0 cA cB cC hQ _ v.heap.size (Bz.new v 0 0 25) hS.2.2.2.2.2.2.1  hS2)
  · dsimp only [rzAct]
    go_simp
    have hb : Below v.heap.size v (v.alloc (.cells #[.int .i64 0, .int .i64 0] 25)) := (Below.refl _ _).alloc (Nat.le_refl _) _
    refine hK.out _ _ (rz_keep hS hb) (fun hS2 => ?_)
    exact wpAnyH_listed (by kernel_rfl) (rz0_9 Q0 hP op al ah bl bh cl ch P Q R N w0 cA cB cC hQ _ v.heap.size (Bz.new v 0 0 25) hS.2.2.2.2.2.2.1  hS2)
set_option maxRecDepth 100000 in
set_option maxHeartbeats 8000000 in
theorem rz_region (Q0 : Exit → Act → World → Prop) (hP : ∀ c (a : Act) d v w, Q0 (.panic c) (a.put d v) w → Q0 (.panic c) a w) (op al ah bl bh cl ch : Int) (P Q R : Int × Int) (N : Nat) (w0 : World) (cA : ∀ w : World, Calls Try.prog 11 #[.agg #[.int .i64 al, .int .i64 ah]] w fun e w' => e = .returned (.agg #[.int .i64 P.1, .int .i64 P.2]) ∧ New2 w w') (cB : ∀ w : World, Calls Try.prog 11 #[.agg #[.int .i64 bl, .int .i64 bh]] w fun e w' => e = .returned (.agg #[.int .i64 Q.1, .int .i64 Q.2]) ∧ New2 w w') (cC : ∀ w : World, Calls Try.prog 11 #[.agg #[.int .i64 cl, .int .i64 ch]] w fun e w' => e = .returned (.agg #[.int .i64 R.1, .int .i64 R.2]) ∧ New2 w w') (hQ : ∀ (v : World) (k7 k8 k9 : Nat), Bz v k7 P.1 P.2 → Bz v k8 Q.1 Q.2 → Bz v k9 R.1 R.2 → k7 ≠ k8 → k7 ≠ k9 → k8 ≠ k9 → Below N w0 v → Q0 .normal (rzAct op al ah bl bh cl ch N (.pointer (some ⟨k7, 0, none⟩)) (.pointer (some ⟨k8, 0, none⟩)) (.pointer (some ⟨k9, 0, none⟩)) (.pointer (some ⟨N, 0, none⟩)) (.agg #[.int .i64 al, .int .i64 ah]) (.agg #[.int .i64 P.1, .int .i64 P.2]) (.agg #[.int .i64 P.1, .int .i64 P.2]) (.pointer (some ⟨N, 2, none⟩)) (.agg #[.int .i64 bl, .int .i64 bh]) (.agg #[.int .i64 Q.1, .int .i64 Q.2]) (.agg #[.int .i64 Q.1, .int .i64 Q.2]) (.agg #[.int .i64 cl, .int .i64 ch]) (.agg #[.int .i64 R.1, .int .i64 R.2]) (.agg #[.int .i64 R.1, .int .i64 R.2])) v) (W : World) (hS : rzS N al ah bl bh cl ch w0 W) : (Code.region 1 rzOps true).wp Try.prog Q0 (rzAct op al ah bl bh cl ch N undef undef undef undef undef undef undef undef undef undef undef undef undef undef) W := by
  refine wp_region_held_drew (S := fun w => rzS N al ah bl bh cl ch w0 w) (by kernel_rfl) (rz_keep hS ((Below.refl _ _).drew)) (fun hH => ?_)
  dsimp only [rzAct]
  refine wpAnyH_take (i := 0) (oi := ({ dst := some 17, op := Op.indexAddr 52 (Operand.tmp 4) (Operand.const (Value.int IntKind.i64 0)), type := 0, pos := "law.go:78", after := #[], guard := none } : Oper)) (v := ?_) rfl (by kernel_rfl) (by kernel_rfl) (by kernel_rfl) (fun c a w h => hP c a _ _ w h) (Or.inl ⟨by rfl, ?_⟩) (by assumption) ?_
  rotate_left
  · (intro wz hSw; dsimp only [rzS] at hSw; go_simp; try with_reducible rfl)
  simp only [Act.put, List.setIfInBounds_toArray, List.set_cons_zero, List.set_cons_succ]
  refine wpAnyH_take (i := 1) (oi := ({ dst := some 18, op := Op.load 23 (Operand.tmp 17), type := 23, pos := "law.go:78", after := #[{ on := 0, ground := Ground.data }], guard := none } : Oper)) (v := ?_) rfl (by kernel_rfl) (by kernel_rfl) (by kernel_rfl) (fun c a w h => hP c a _ _ w h) (Or.inl ⟨by rfl, ?_⟩) (by assumption) ?_
  rotate_left
  · (intro wz hSw; dsimp only [rzS] at hSw; go_simp; try with_reducible rfl)
  simp only [Act.put, List.setIfInBounds_toArray, List.set_cons_zero, List.set_cons_succ]
  refine wpAnyH_take (i := 4) (oi := ({ dst := some 21, op := Op.indexAddr 52 (Operand.tmp 4) (Operand.const (Value.int IntKind.i64 1)), type := 0, pos := "law.go:78", after := #[], guard := none } : Oper)) (v := ?_) rfl (by kernel_rfl) (by kernel_rfl) (by kernel_rfl) (fun c a w h => hP c a _ _ w h) (Or.inl ⟨by rfl, ?_⟩) (by assumption) ?_
  rotate_left
  · (intro wz hSw; dsimp only [rzS] at hSw; go_simp; try with_reducible rfl)
  simp only [Act.put, List.setIfInBounds_toArray, List.set_cons_zero, List.set_cons_succ]
  refine wpAnyH_take (i := 5) (oi := ({ dst := some 22, op := Op.load 23 (Operand.tmp 21), type := 23, pos := "law.go:78", after := #[{ on := 4, ground := Ground.data }], guard := none } : Oper)) (v := ?_) rfl (by kernel_rfl) (by kernel_rfl) (by kernel_rfl) (fun c a w h => hP c a _ _ w h) (Or.inl ⟨by rfl, ?_⟩) (by assumption) ?_
  rotate_left
  · (intro wz hSw; dsimp only [rzS] at hSw; go_simp; try with_reducible rfl)
  simp only [Act.put, List.setIfInBounds_toArray, List.set_cons_zero, List.set_cons_succ]
  refine wpAnyH_take (i := 8) (oi := ({ dst := some 25, op := Op.load 23 (Operand.tmp 5), type := 23, pos := "law.go:78", after := #[], guard := none } : Oper)) (v := ?_) rfl (by kernel_rfl) (by kernel_rfl) (by kernel_rfl) (fun c a w h => hP c a _ _ w h) (Or.inl ⟨by rfl, ?_⟩) (by assumption) ?_
  rotate_left
  · (intro wz hSw; dsimp only [rzS] at hSw; go_simp; try with_reducible rfl)
  simp only [Act.put, List.setIfInBounds_toArray, List.set_cons_zero, List.set_cons_succ]
  exact wpAnyH_listed (by kernel_rfl) (rz0_n Q0 hP op al ah bl bh cl ch P Q R N w0 cA cB cC hQ _ hH)
end Go.Proofs.Ytpegiljajlljkaa
