import Derived.Test.YtpegiljajlljkaaRz
namespace Go.Proofs.Ytpegiljajlljkaa
open Go.RowKit
set_option maxRecDepth 100000 in
set_option maxHeartbeats 8000000 in
theorem rz5_789 (Q0 : Exit → Act → World → Prop) (hP : ∀ c (a : Act) d v w, Q0 (.panic c) (a.put d v) w → Q0 (.panic c) a w) (op al ah bl bh cl ch : Int) (P Q R : Int × Int) (N : Nat) (w0 : World) (cA : ∀ w : World, Calls Try.prog 11 #[.agg #[.int .i64 al, .int .i64 ah]] w fun e w' => e = .returned (.agg #[.int .i64 P.1, .int .i64 P.2]) ∧ New2 w w') (cB : ∀ w : World, Calls Try.prog 11 #[.agg #[.int .i64 bl, .int .i64 bh]] w fun e w' => e = .returned (.agg #[.int .i64 Q.1, .int .i64 Q.2]) ∧ New2 w w') (cC : ∀ w : World, Calls Try.prog 11 #[.agg #[.int .i64 cl, .int .i64 ch]] w fun e w' => e = .returned (.agg #[.int .i64 R.1, .int .i64 R.2]) ∧ New2 w w') (hQ : ∀ (v : World) (k7 k8 k9 : Nat), Bz v k7 P.1 P.2 → Bz v k8 Q.1 Q.2 → Bz v k9 R.1 R.2 → k7 ≠ k8 → k7 ≠ k9 → k8 ≠ k9 → Below N w0 v → Q0 .normal (rzAct op al ah bl bh cl ch N (.pointer (some ⟨k7, 0, none⟩)) (.pointer (some ⟨k8, 0, none⟩)) (.pointer (some ⟨k9, 0, none⟩)) (.pointer (some ⟨N, 0, none⟩)) (.agg #[.int .i64 al, .int .i64 ah]) (.agg #[.int .i64 P.1, .int .i64 P.2]) (.agg #[.int .i64 P.1, .int .i64 P.2]) (.pointer (some ⟨N, 2, none⟩)) (.agg #[.int .i64 bl, .int .i64 bh]) (.agg #[.int .i64 Q.1, .int .i64 Q.2]) (.agg #[.int .i64 Q.1, .int .i64 Q.2]) (.agg #[.int .i64 cl, .int .i64 ch]) (.agg #[.int .i64 R.1, .int .i64 R.2]) (.agg #[.int .i64 R.1, .int .i64 R.2])) v) (v : World) (k7 k8 k9 : Nat) (K7 : Bz v k7 0 0) (n7 : N + 1 < k7) (K8 : Bz v k8 0 0) (n8 : N + 1 < k8) (K9 : Bz v k9 0 0) (n9 : N + 1 < k9) (e78 : k7 ≠ k8) (e79 : k7 ≠ k9) (e89 : k8 ≠ k9) (hS : rzS N al ah bl bh cl ch w0 v) : wpAnyH Try.prog .any rzOps Q0 (fun w => rzS N al ah bl bh cl ch w0 w) 4 #[true, true, true, true, true, true, true, true, true, true, false, true, true, true, false, false, false] (rzAct op al ah bl bh cl ch N (.pointer (some ⟨k7, 0, none⟩)) (.pointer (some ⟨k8, 0, none⟩)) (.pointer (some ⟨k9, 0, none⟩)) (.pointer (some ⟨N, 0, none⟩)) (.agg #[.int .i64 al, .int .i64 ah]) (.agg #[.int .i64 P.1, .int .i64 P.2]) (.agg #[.int .i64 P.1, .int .i64 P.2]) (.pointer (some ⟨N, 2, none⟩)) (.agg #[.int .i64 bl, .int .i64 bh]) (.agg #[.int .i64 Q.1, .int .i64 Q.2]) (.agg #[.int .i64 Q.1, .int .i64 Q.2]) (.agg #[.int .i64 cl, .int .i64 ch]) (.agg #[.int .i64 R.1, .int .i64 R.2]) undef) v := by
  refine wpAnyH_ready (rs := [10]) (by kernel_rfl) (by simp) ?_
  refine AllReadyH.cons (o := ({ dst := some 27, op := Op.call { callee := Callee.value (Operand.func 10), args := #[Operand.tmp 26], argTypes := #[23] }, type := 25, pos := "law.go:78", after := #[{ on := 9, ground := Ground.data }, { on := 9, ground := Ground.chain }], guard := none } : Oper)) rfl (fun K hK => ?_) AllReadyH.nil
  · dsimp only [rzAct]
    go_simp
    go_at_call 10
    refine (bel2r (to_any _ _ _)).mono ?_
    rintro e v1 ⟨rfl, hb⟩
    refine hK.out _ _ (rz_keep hS hb) (fun hS2 => ?_)
    exact wpAnyH_listed (by kernel_rfl) (rz6_789 Q0 hP op al ah bl bh cl ch P Q R N w0 cA cB cC hQ _ k7 k8 k9 (K7.keep hb) n7 (K8.keep hb) n8 (K9.keep hb) n9 e78 e79 e89 hS2)
set_option maxRecDepth 100000 in
set_option maxHeartbeats 8000000 in
theorem rz5_78 (Q0 : Exit → Act → World → Prop) (hP : ∀ c (a : Act) d v w, Q0 (.panic c) (a.put d v) w → Q0 (.panic c) a w) (op al ah bl bh cl ch : Int) (P Q R : Int × Int) (N : Nat) (w0 : World) (cA : ∀ w : World, Calls Try.prog 11 #[.agg #[.int .i64 al, .int .i64 ah]] w fun e w' => e = .returned (.agg #[.int .i64 P.1, .int .i64 P.2]) ∧ New2 w w') (cB : ∀ w : World, Calls Try.prog 11 #[.agg #[.int .i64 bl, .int .i64 bh]] w fun e w' => e = .returned (.agg #[.int .i64 Q.1, .int .i64 Q.2]) ∧ New2 w w') (cC : ∀ w : World, Calls Try.prog 11 #[.agg #[.int .i64 cl, .int .i64 ch]] w fun e w' => e = .returned (.agg #[.int .i64 R.1, .int .i64 R.2]) ∧ New2 w w') (hQ : ∀ (v : World) (k7 k8 k9 : Nat), Bz v k7 P.1 P.2 → Bz v k8 Q.1 Q.2 → Bz v k9 R.1 R.2 → k7 ≠ k8 → k7 ≠ k9 → k8 ≠ k9 → Below N w0 v → Q0 .normal (rzAct op al ah bl bh cl ch N (.pointer (some ⟨k7, 0, none⟩)) (.pointer (some ⟨k8, 0, none⟩)) (.pointer (some ⟨k9, 0, none⟩)) (.pointer (some ⟨N, 0, none⟩)) (.agg #[.int .i64 al, .int .i64 ah]) (.agg #[.int .i64 P.1, .int .i64 P.2]) (.agg #[.int .i64 P.1, .int .i64 P.2]) (.pointer (some ⟨N, 2, none⟩)) (.agg #[.int .i64 bl, .int .i64 bh]) (.agg #[.int .i64 Q.1, .int .i64 Q.2]) (.agg #[.int .i64 Q.1, .int .i64 Q.2]) (.agg #[.int .i64 cl, .int .i64 ch]) (.agg #[.int .i64 R.1, .int .i64 R.2]) (.agg #[.int .i64 R.1, .int .i64 R.2])) v) (v : World) (k7 k8 : Nat) (K7 : Bz v k7 0 0) (n7 : N + 1 < k7) (K8 : Bz v k8 0 0) (n8 : N + 1 < k8) (e78 : k7 ≠ k8) (hS : rzS N al ah bl bh cl ch w0 v) : wpAnyH Try.prog .any rzOps Q0 (fun w => rzS N al ah bl bh cl ch w0 w) 5 #[true, true, true, true, true, true, true, true, true, true, false, true, true, false, false, false, false] (rzAct op al ah bl bh cl ch N (.pointer (some ⟨k7, 0, none⟩)) (.pointer (some ⟨k8, 0, none⟩)) undef (.pointer (some ⟨N, 0, none⟩)) (.agg #[.int .i64 al, .int .i64 ah]) (.agg #[.int .i64 P.1, .int .i64 P.2]) (.agg #[.int .i64 P.1, .int .i64 P.2]) (.pointer (some ⟨N, 2, none⟩)) (.agg #[.int .i64 bl, .int .i64 bh]) (.agg #[.int .i64 Q.1, .int .i64 Q.2]) (.agg #[.int .i64 Q.1, .int .i64 Q.2]) (.agg #[.int .i64 cl, .int .i64 ch]) (.agg #[.int .i64 R.1, .int .i64 R.2]) undef) v := by
  refine wpAnyH_ready (rs := [10, 13]) (by kernel_rfl) (by simp) ?_
  refine AllReadyH.cons (o := ({ dst := some 27, op := Op.call { callee := Callee.value (Operand.func 10), args := #[Operand.tmp 26], argTypes := #[23] }, type := 25, pos := "law.go:78", after := #[{ on := 9, ground := Ground.data }, { on := 9, ground := Ground.chain }], guard := none } : Oper)) rfl (fun K hK => ?_) (AllReadyH.cons (o := ({ dst := some 9, op := Op.alloc 25, type := 0, pos := "law.go:78", after := #[], guard := none } : Oper)) rfl (fun K hK => ?_) AllReadyH.nil)
  · dsimp only [rzAct]
    go_simp
    go_at_call 10
    refine (bel2r (to_any _ _ _)).mono ?_
    rintro e v1 ⟨rfl, hb⟩
    refine hK.out _ _ (rz_keep hS hb) (fun hS2 => ?_)
    exact wpAnyH_listed (by kernel_rfl) (rz6_78 Q0 hP op al ah bl bh cl ch P Q R N w0 cA cB cC hQ _ k7 k8 (K7.keep hb) n7 (K8.keep hb) n8 e78 hS2)
  · dsimp only [rzAct]
    go_simp
    have hb : Below v.heap.size v (v.alloc (.cells #[.int .i64 0, .int .i64 0] 25)) := (Below.refl _ _).alloc (Nat.le_refl _) _
    refine hK.out _ _ (rz_keep hS hb) (fun hS2 => ?_)
    exact wpAnyH_listed (by kernel_rfl) (rz5_789 Q0 hP op al ah bl bh cl ch P Q R N w0 cA cB cC hQ _ k7 k8 v.heap.size (K7.keep hb) n7 (K8.keep hb) n8 (Bz.new v 0 0 25) hS.2.2.2.2.2.2.1 e78 (Nat.ne_of_lt K7.1.lt) (Nat.ne_of_lt K8.1.lt) hS2)
set_option maxRecDepth 100000 in
set_option maxHeartbeats 8000000 in
theorem rz5_79 (Q0 : Exit → Act → World → Prop) (hP : ∀ c (a : Act) d v w, Q0 (.panic c) (a.put d v) w → Q0 (.panic c) a w) (op al ah bl bh cl ch : Int) (P Q R : Int × Int) (N : Nat) (w0 : World) (cA : ∀ w : World, Calls Try.prog 11 #[.agg #[.int .i64 al, .int .i64 ah]] w fun e w' => e = .returned (.agg #[.int .i64 P.1, .int .i64 P.2]) ∧ New2 w w') (cB : ∀ w : World, Calls Try.prog 11 #[.agg #[.int .i64 bl, .int .i64 bh]] w fun e w' => e = .returned (.agg #[.int .i64 Q.1, .int .i64 Q.2]) ∧ New2 w w') (cC : ∀ w : World, Calls Try.prog 11 #[.agg #[.int .i64 cl, .int .i64 ch]] w fun e w' => e = .returned (.agg #[.int .i64 R.1, .int .i64 R.2]) ∧ New2 w w') (hQ : ∀ (v : World) (k7 k8 k9 : Nat), Bz v k7 P.1 P.2 → Bz v k8 Q.1 Q.2 → Bz v k9 R.1 R.2 → k7 ≠ k8 → k7 ≠ k9 → k8 ≠ k9 → Below N w0 v → Q0 .normal (rzAct op al ah bl bh cl ch N (.pointer (some ⟨k7, 0, none⟩)) (.pointer (some ⟨k8, 0, none⟩)) (.pointer (some ⟨k9, 0, none⟩)) (.pointer (some ⟨N, 0, none⟩)) (.agg #[.int .i64 al, .int .i64 ah]) (.agg #[.int .i64 P.1, .int .i64 P.2]) (.agg #[.int .i64 P.1, .int .i64 P.2]) (.pointer (some ⟨N, 2, none⟩)) (.agg #[.int .i64 bl, .int .i64 bh]) (.agg #[.int .i64 Q.1, .int .i64 Q.2]) (.agg #[.int .i64 Q.1, .int .i64 Q.2]) (.agg #[.int .i64 cl, .int .i64 ch]) (.agg #[.int .i64 R.1, .int .i64 R.2]) (.agg #[.int .i64 R.1, .int .i64 R.2])) v) (v : World) (k7 k9 : Nat) (K7 : Bz v k7 0 0) (n7 : N + 1 < k7) (K9 : Bz v k9 0 0) (n9 : N + 1 < k9) (e79 : k7 ≠ k9) (hS : rzS N al ah bl bh cl ch w0 v) : wpAnyH Try.prog .any rzOps Q0 (fun w => rzS N al ah bl bh cl ch w0 w) 5 #[true, true, true, true, true, true, true, true, true, true, false, true, false, true, false, false, false] (rzAct op al ah bl bh cl ch N (.pointer (some ⟨k7, 0, none⟩)) undef (.pointer (some ⟨k9, 0, none⟩)) (.pointer (some ⟨N, 0, none⟩)) (.agg #[.int .i64 al, .int .i64 ah]) (.agg #[.int .i64 P.1, .int .i64 P.2]) (.agg #[.int .i64 P.1, .int .i64 P.2]) (.pointer (some ⟨N, 2, none⟩)) (.agg #[.int .i64 bl, .int .i64 bh]) (.agg #[.int .i64 Q.1, .int .i64 Q.2]) (.agg #[.int .i64 Q.1, .int .i64 Q.2]) (.agg #[.int .i64 cl, .int .i64 ch]) (.agg #[.int .i64 R.1, .int .i64 R.2]) undef) v := by
  refine wpAnyH_ready (rs := [10, 12]) (by kernel_rfl) (by simp) ?_
  refine AllReadyH.cons (o := ({ dst := some 27, op := Op.call { callee := Callee.value (Operand.func 10), args := #[Operand.tmp 26], argTypes := #[23] }, type := 25, pos := "law.go:78", after := #[{ on := 9, ground := Ground.data }, { on := 9, ground := Ground.chain }], guard := none } : Oper)) rfl (fun K hK => ?_) (AllReadyH.cons (o := ({ dst := some 8, op := Op.alloc 25, type := 0, pos := "law.go:78", after := #[], guard := none } : Oper)) rfl (fun K hK => ?_) AllReadyH.nil)
  · dsimp only [rzAct]
    go_simp
    go_at_call 10
    refine (bel2r (to_any _ _ _)).mono ?_
    rintro e v1 ⟨rfl, hb⟩
    refine hK.out _ _ (rz_keep hS hb) (fun hS2 => ?_)
    exact wpAnyH_listed (by kernel_rfl) (rz6_79 Q0 hP op al ah bl bh cl ch P Q R N w0 cA cB cC hQ _ k7 k9 (K7.keep hb) n7 (K9.keep hb) n9 e79 hS2)
  · dsimp only [rzAct]
    go_simp
    have hb : Below v.heap.size v (v.alloc (.cells #[.int .i64 0, .int .i64 0] 25)) := (Below.refl _ _).alloc (Nat.le_refl _) _
    refine hK.out _ _ (rz_keep hS hb) (fun hS2 => ?_)
    exact wpAnyH_listed (by kernel_rfl) (rz5_789 Q0 hP op al ah bl bh cl ch P Q R N w0 cA cB cC hQ _ k7 v.heap.size k9 (K7.keep hb) n7 (Bz.new v 0 0 25) hS.2.2.2.2.2.2.1 (K9.keep hb) n9 (Nat.ne_of_lt K7.1.lt) e79 (Nat.ne_of_gt K9.1.lt) hS2)
set_option maxRecDepth 100000 in
set_option maxHeartbeats 8000000 in
theorem rz5_89 (Q0 : Exit → Act → World → Prop) (hP : ∀ c (a : Act) d v w, Q0 (.panic c) (a.put d v) w → Q0 (.panic c) a w) (op al ah bl bh cl ch : Int) (P Q R : Int × Int) (N : Nat) (w0 : World) (cA : ∀ w : World, Calls Try.prog 11 #[.agg #[.int .i64 al, .int .i64 ah]] w fun e w' => e = .returned (.agg #[.int .i64 P.1, .int .i64 P.2]) ∧ New2 w w') (cB : ∀ w : World, Calls Try.prog 11 #[.agg #[.int .i64 bl, .int .i64 bh]] w fun e w' => e = .returned (.agg #[.int .i64 Q.1, .int .i64 Q.2]) ∧ New2 w w') (cC : ∀ w : World, Calls Try.prog 11 #[.agg #[.int .i64 cl, .int .i64 ch]] w fun e w' => e = .returned (.agg #[.int .i64 R.1, .int .i64 R.2]) ∧ New2 w w') (hQ : ∀ (v : World) (k7 k8 k9 : Nat), Bz v k7 P.1 P.2 → Bz v k8 Q.1 Q.2 → Bz v k9 R.1 R.2 → k7 ≠ k8 → k7 ≠ k9 → k8 ≠ k9 → Below N w0 v → Q0 .normal (rzAct op al ah bl bh cl ch N (.pointer (some ⟨k7, 0, none⟩)) (.pointer (some ⟨k8, 0, none⟩)) (.pointer (some ⟨k9, 0, none⟩)) (.pointer (some ⟨N, 0, none⟩)) (.agg #[.int .i64 al, .int .i64 ah]) (.agg #[.int .i64 P.1, .int .i64 P.2]) (.agg #[.int .i64 P.1, .int .i64 P.2]) (.pointer (some ⟨N, 2, none⟩)) (.agg #[.int .i64 bl, .int .i64 bh]) (.agg #[.int .i64 Q.1, .int .i64 Q.2]) (.agg #[.int .i64 Q.1, .int .i64 Q.2]) (.agg #[.int .i64 cl, .int .i64 ch]) (.agg #[.int .i64 R.1, .int .i64 R.2]) (.agg #[.int .i64 R.1, .int .i64 R.2])) v) (v : World) (k8 k9 : Nat) (K8 : Bz v k8 0 0) (n8 : N + 1 < k8) (K9 : Bz v k9 0 0) (n9 : N + 1 < k9) (e89 : k8 ≠ k9) (hS : rzS N al ah bl bh cl ch w0 v) : wpAnyH Try.prog .any rzOps Q0 (fun w => rzS N al ah bl bh cl ch w0 w) 5 #[true, true, true, true, true, true, true, true, true, true, false, false, true, true, false, false, false] (rzAct op al ah bl bh cl ch N undef (.pointer (some ⟨k8, 0, none⟩)) (.pointer (some ⟨k9, 0, none⟩)) (.pointer (some ⟨N, 0, none⟩)) (.agg #[.int .i64 al, .int .i64 ah]) (.agg #[.int .i64 P.1, .int .i64 P.2]) (.agg #[.int .i64 P.1, .int .i64 P.2]) (.pointer (some ⟨N, 2, none⟩)) (.agg #[.int .i64 bl, .int .i64 bh]) (.agg #[.int .i64 Q.1, .int .i64 Q.2]) (.agg #[.int .i64 Q.1, .int .i64 Q.2]) (.agg #[.int .i64 cl, .int .i64 ch]) (.agg #[.int .i64 R.1, .int .i64 R.2]) undef) v := by
  refine wpAnyH_ready (rs := [10, 11]) (by kernel_rfl) (by simp) ?_
  refine AllReadyH.cons (o := ({ dst := some 27, op := Op.call { callee := Callee.value (Operand.func 10), args := #[Operand.tmp 26], argTypes := #[23] }, type := 25, pos := "law.go:78", after := #[{ on := 9, ground := Ground.data }, { on := 9, ground := Ground.chain }], guard := none } : Oper)) rfl (fun K hK => ?_) (AllReadyH.cons (o := ({ dst := some 7, op := Op.alloc 25, type := 0, pos := "law.go:78", after := #[], guard := none } : Oper)) rfl (fun K hK => ?_) AllReadyH.nil)
  · dsimp only [rzAct]
    go_simp
    go_at_call 10
    refine (bel2r (to_any _ _ _)).mono ?_
    rintro e v1 ⟨rfl, hb⟩
    refine hK.out _ _ (rz_keep hS hb) (fun hS2 => ?_)
    exact wpAnyH_listed (by kernel_rfl) (rz6_89 Q0 hP op al ah bl bh cl ch P Q R N w0 cA cB cC hQ _ k8 k9 (K8.keep hb) n8 (K9.keep hb) n9 e89 hS2)
  · dsimp only [rzAct]
    go_simp
    have hb : Below v.heap.size v (v.alloc (.cells #[.int .i64 0, .int .i64 0] 25)) := (Below.refl _ _).alloc (Nat.le_refl _) _
    refine hK.out _ _ (rz_keep hS hb) (fun hS2 => ?_)
    exact wpAnyH_listed (by kernel_rfl) (rz5_789 Q0 hP op al ah bl bh cl ch P Q R N w0 cA cB cC hQ _ v.heap.size k8 k9 (Bz.new v 0 0 25) hS.2.2.2.2.2.2.1 (K8.keep hb) n8 (K9.keep hb) n9 (Nat.ne_of_gt K8.1.lt) (Nat.ne_of_gt K9.1.lt) e89 hS2)
set_option maxRecDepth 100000 in
set_option maxHeartbeats 8000000 in
theorem rz5_7 (Q0 : Exit → Act → World → Prop) (hP : ∀ c (a : Act) d v w, Q0 (.panic c) (a.put d v) w → Q0 (.panic c) a w) (op al ah bl bh cl ch : Int) (P Q R : Int × Int) (N : Nat) (w0 : World) (cA : ∀ w : World, Calls Try.prog 11 #[.agg #[.int .i64 al, .int .i64 ah]] w fun e w' => e = .returned (.agg #[.int .i64 P.1, .int .i64 P.2]) ∧ New2 w w') (cB : ∀ w : World, Calls Try.prog 11 #[.agg #[.int .i64 bl, .int .i64 bh]] w fun e w' => e = .returned (.agg #[.int .i64 Q.1, .int .i64 Q.2]) ∧ New2 w w') (cC : ∀ w : World, Calls Try.prog 11 #[.agg #[.int .i64 cl, .int .i64 ch]] w fun e w' => e = .returned (.agg #[.int .i64 R.1, .int .i64 R.2]) ∧ New2 w w') (hQ : ∀ (v : World) (k7 k8 k9 : Nat), Bz v k7 P.1 P.2 → Bz v k8 Q.1 Q.2 → Bz v k9 R.1 R.2 → k7 ≠ k8 → k7 ≠ k9 → k8 ≠ k9 → Below N w0 v → Q0 .normal (rzAct op al ah bl bh cl ch N (.pointer (some ⟨k7, 0, none⟩)) (.pointer (some ⟨k8, 0, none⟩)) (.pointer (some ⟨k9, 0, none⟩)) (.pointer (some ⟨N, 0, none⟩)) (.agg #[.int .i64 al, .int .i64 ah]) (.agg #[.int .i64 P.1, .int .i64 P.2]) (.agg #[.int .i64 P.1, .int .i64 P.2]) (.pointer (some ⟨N, 2, none⟩)) (.agg #[.int .i64 bl, .int .i64 bh]) (.agg #[.int .i64 Q.1, .int .i64 Q.2]) (.agg #[.int .i64 Q.1, .int .i64 Q.2]) (.agg #[.int .i64 cl, .int .i64 ch]) (.agg #[.int .i64 R.1, .int .i64 R.2]) (.agg #[.int .i64 R.1, .int .i64 R.2])) v) (v : World) (k7 : Nat) (K7 : Bz v k7 0 0) (n7 : N + 1 < k7)  (hS : rzS N al ah bl bh cl ch w0 v) : wpAnyH Try.prog .any rzOps Q0 (fun w => rzS N al ah bl bh cl ch w0 w) 6 #[true, true, true, true, true, true, true, true, true, true, false, true, false, false, false, false, false] (rzAct op al ah bl bh cl ch N (.pointer (some ⟨k7, 0, none⟩)) undef undef (.pointer (some ⟨N, 0, none⟩)) (.agg #[.int .i64 al, .int .i64 ah]) (.agg #[.int .i64 P.1, .int .i64 P.2]) (.agg #[.int .i64 P.1, .int .i64 P.2]) (.pointer (some ⟨N, 2, none⟩)) (.agg #[.int .i64 bl, .int .i64 bh]) (.agg #[.int .i64 Q.1, .int .i64 Q.2]) (.agg #[.int .i64 Q.1, .int .i64 Q.2]) (.agg #[.int .i64 cl, .int .i64 ch]) (.agg #[.int .i64 R.1, .int .i64 R.2]) undef) v := by
  refine wpAnyH_ready (rs := [10, 12, 13]) (by kernel_rfl) (by simp) ?_
  refine AllReadyH.cons (o := ({ dst := some 27, op := Op.call { callee := Callee.value (Operand.func 10), args := #[Operand.tmp 26], argTypes := #[23] }, type := 25, pos := "law.go:78", after := #[{ on := 9, ground := Ground.data }, { on := 9, ground := Ground.chain }], guard := none } : Oper)) rfl (fun K hK => ?_) (AllReadyH.cons (o := ({ dst := some 8, op := Op.alloc 25, type := 0, pos := "law.go:78", after := #[], guard := none } : Oper)) rfl (fun K hK => ?_) (AllReadyH.cons (o := ({ dst := some 9, op := Op.alloc 25, type := 0, pos := "law.go:78", after := #[], guard := none } : Oper)) rfl (fun K hK => ?_) AllReadyH.nil))
  · dsimp only [rzAct]
    go_simp
    go_at_call 10
    refine (bel2r (to_any _ _ _)).mono ?_
    rintro e v1 ⟨rfl, hb⟩
    refine hK.out _ _ (rz_keep hS hb) (fun hS2 => ?_)
    exact wpAnyH_listed (by kernel_rfl) (rz6_7 Q0 hP op al ah bl bh cl ch P Q R N w0 cA cB cC hQ _ k7 (K7.keep hb) n7  hS2)
  · dsimp only [rzAct]
    go_simp
    have hb : Below v.heap.size v (v.alloc (.cells #[.int .i64 0, .int .i64 0] 25)) := (Below.refl _ _).alloc (Nat.le_refl _) _
    refine hK.out _ _ (rz_keep hS hb) (fun hS2 => ?_)
    exact wpAnyH_listed (by kernel_rfl) (rz5_78 Q0 hP op al ah bl bh cl ch P Q R N w0 cA cB cC hQ _ k7 v.heap.size (K7.keep hb) n7 (Bz.new v 0 0 25) hS.2.2.2.2.2.2.1 (Nat.ne_of_lt K7.1.lt) hS2)
  · dsimp only [rzAct]
    go_simp
    have hb : Below v.heap.size v (v.alloc (.cells #[.int .i64 0, .int .i64 0] 25)) := (Below.refl _ _).alloc (Nat.le_refl _) _
    refine hK.out _ _ (rz_keep hS hb) (fun hS2 => ?_)
    exact wpAnyH_listed (by kernel_rfl) (rz5_79 Q0 hP op al ah bl bh cl ch P Q R N w0 cA cB cC hQ _ k7 v.heap.size (K7.keep hb) n7 (Bz.new v 0 0 25) hS.2.2.2.2.2.2.1 (Nat.ne_of_lt K7.1.lt) hS2)
set_option maxRecDepth 100000 in
set_option maxHeartbeats 8000000 in
theorem rz5_8 (Q0 : Exit → Act → World → Prop) (hP : ∀ c (a : Act) d v w, Q0 (.panic c) (a.put d v) w → Q0 (.panic c) a w) (op al ah bl bh cl ch : Int) (P Q R : Int × Int) (N : Nat) (w0 : World) (cA : ∀ w : World, Calls Try.prog 11 #[.agg #[.int .i64 al, .int .i64 ah]] w fun e w' => e = .returned (.agg #[.int .i64 P.1, .int .i64 P.2]) ∧ New2 w w') (cB : ∀ w : World, Calls Try.prog 11 #[.agg #[.int .i64 bl, .int .i64 bh]] w fun e w' => e = .returned (.agg #[.int .i64 Q.1, .int .i64 Q.2]) ∧ New2 w w') (cC : ∀ w : World, Calls Try.prog 11 #[.agg #[.int .i64 cl, .int .i64 ch]] w fun e w' => e = .returned (.agg #[.int .i64 R.1, .int .i64 R.2]) ∧ New2 w w') (hQ : ∀ (v : World) (k7 k8 k9 : Nat), Bz v k7 P.1 P.2 → Bz v k8 Q.1 Q.2 → Bz v k9 R.1 R.2 → k7 ≠ k8 → k7 ≠ k9 → k8 ≠ k9 → Below N w0 v → Q0 .normal (rzAct op al ah bl bh cl ch N (.pointer (some ⟨k7, 0, none⟩)) (.pointer (some ⟨k8, 0, none⟩)) (.pointer (some ⟨k9, 0, none⟩)) (.pointer (some ⟨N, 0, none⟩)) (.agg #[.int .i64 al, .int .i64 ah]) (.agg #[.int .i64 P.1, .int .i64 P.2]) (.agg #[.int .i64 P.1, .int .i64 P.2]) (.pointer (some ⟨N, 2, none⟩)) (.agg #[.int .i64 bl, .int .i64 bh]) (.agg #[.int .i64 Q.1, .int .i64 Q.2]) (.agg #[.int .i64 Q.1, .int .i64 Q.2]) (.agg #[.int .i64 cl, .int .i64 ch]) (.agg #[.int .i64 R.1, .int .i64 R.2]) (.agg #[.int .i64 R.1, .int .i64 R.2])) v) (v : World) (k8 : Nat) (K8 : Bz v k8 0 0) (n8 : N + 1 < k8)  (hS : rzS N al ah bl bh cl ch w0 v) : wpAnyH Try.prog .any rzOps Q0 (fun w => rzS N al ah bl bh cl ch w0 w) 6 #[true, true, true, true, true, true, true, true, true, true, false, false, true, false, false, false, false] (rzAct op al ah bl bh cl ch N undef (.pointer (some ⟨k8, 0, none⟩)) undef (.pointer (some ⟨N, 0, none⟩)) (.agg #[.int .i64 al, .int .i64 ah]) (.agg #[.int .i64 P.1, .int .i64 P.2]) (.agg #[.int .i64 P.1, .int .i64 P.2]) (.pointer (some ⟨N, 2, none⟩)) (.agg #[.int .i64 bl, .int .i64 bh]) (.agg #[.int .i64 Q.1, .int .i64 Q.2]) (.agg #[.int .i64 Q.1, .int .i64 Q.2]) (.agg #[.int .i64 cl, .int .i64 ch]) (.agg #[.int .i64 R.1, .int .i64 R.2]) undef) v := by
  refine wpAnyH_ready (rs := [10, 11, 13]) (by kernel_rfl) (by simp) ?_
  refine AllReadyH.cons (o := ({ dst := some 27, op := Op.call { callee := Callee.value (Operand.func 10), args := #[Operand.tmp 26], argTypes := #[23] }, type := 25, pos := "law.go:78", after := #[{ on := 9, ground := Ground.data }, { on := 9, ground := Ground.chain }], guard := none } : Oper)) rfl (fun K hK => ?_) (AllReadyH.cons (o := ({ dst := some 7, op := Op.alloc 25, type := 0, pos := "law.go:78", after := #[], guard := none } : Oper)) rfl (fun K hK => ?_) (AllReadyH.cons (o := ({ dst := some 9, op := Op.alloc 25, type := 0, pos := "law.go:78", after := #[], guard := none } : Oper)) rfl (fun K hK => ?_) AllReadyH.nil))
  · dsimp only [rzAct]
    go_simp
    go_at_call 10
    refine (bel2r (to_any _ _ _)).mono ?_
    rintro e v1 ⟨rfl, hb⟩
    refine hK.out _ _ (rz_keep hS hb) (fun hS2 => ?_)
    exact wpAnyH_listed (by kernel_rfl) (rz6_8 Q0 hP op al ah bl bh cl ch P Q R N w0 cA cB cC hQ _ k8 (K8.keep hb) n8  hS2)
  · dsimp only [rzAct]
    go_simp
    have hb : Below v.heap.size v (v.alloc (.cells #[.int .i64 0, .int .i64 0] 25)) := (Below.refl _ _).alloc (Nat.le_refl _) _
    refine hK.out _ _ (rz_keep hS hb) (fun hS2 => ?_)
    exact wpAnyH_listed (by kernel_rfl) (rz5_78 Q0 hP op al ah bl bh cl ch P Q R N w0 cA cB cC hQ _ v.heap.size k8 (Bz.new v 0 0 25) hS.2.2.2.2.2.2.1 (K8.keep hb) n8 (Nat.ne_of_gt K8.1.lt) hS2)
  · dsimp only [rzAct]
    go_simp
    have hb : Below v.heap.size v (v.alloc (.cells #[.int .i64 0, .int .i64 0] 25)) := (Below.refl _ _).alloc (Nat.le_refl _) _
    refine hK.out _ _ (rz_keep hS hb) (fun hS2 => ?_)
    exact wpAnyH_listed (by kernel_rfl) (rz5_89 Q0 hP op al ah bl bh cl ch P Q R N w0 cA cB cC hQ _ k8 v.heap.size (K8.keep hb) n8 (Bz.new v 0 0 25) hS.2.2.2.2.2.2.1 (Nat.ne_of_lt K8.1.lt) hS2)
set_option maxRecDepth 100000 in
set_option maxHeartbeats 8000000 in
theorem rz5_9 (Q0 : Exit → Act → World → Prop) (hP : ∀ c (a : Act) d v w, Q0 (.panic c) (a.put d v) w → Q0 (.panic c) a w) (op al ah bl bh cl ch : Int) (P Q R : Int × Int) (N : Nat) (w0 : World) (cA : ∀ w : World, Calls Try.prog 11 #[.agg #[.int .i64 al, .int .i64 ah]] w fun e w' => e = .returned (.agg #[.int .i64 P.1, .int .i64 P.2]) ∧ New2 w w') (cB : ∀ w : World, Calls Try.prog 11 #[.agg #[.int .i64 bl, .int .i64 bh]] w fun e w' => e = .returned (.agg #[.int .i64 Q.1, .int .i64 Q.2]) ∧ New2 w w') (cC : ∀ w : World, Calls Try.prog 11 #[.agg #[.int .i64 cl, .int .i64 ch]] w fun e w' => e = .returned (.agg #[.int .i64 R.1, .int .i64 R.2]) ∧ New2 w w') (hQ : ∀ (v : World) (k7 k8 k9 : Nat), Bz v k7 P.1 P.2 → Bz v k8 Q.1 Q.2 → Bz v k9 R.1 R.2 → k7 ≠ k8 → k7 ≠ k9 → k8 ≠ k9 → Below N w0 v → Q0 .normal (rzAct op al ah bl bh cl ch N (.pointer (some ⟨k7, 0, none⟩)) (.pointer (some ⟨k8, 0, none⟩)) (.pointer (some ⟨k9, 0, none⟩)) (.pointer (some ⟨N, 0, none⟩)) (.agg #[.int .i64 al, .int .i64 ah]) (.agg #[.int .i64 P.1, .int .i64 P.2]) (.agg #[.int .i64 P.1, .int .i64 P.2]) (.pointer (some ⟨N, 2, none⟩)) (.agg #[.int .i64 bl, .int .i64 bh]) (.agg #[.int .i64 Q.1, .int .i64 Q.2]) (.agg #[.int .i64 Q.1, .int .i64 Q.2]) (.agg #[.int .i64 cl, .int .i64 ch]) (.agg #[.int .i64 R.1, .int .i64 R.2]) (.agg #[.int .i64 R.1, .int .i64 R.2])) v) (v : World) (k9 : Nat) (K9 : Bz v k9 0 0) (n9 : N + 1 < k9)  (hS : rzS N al ah bl bh cl ch w0 v) : wpAnyH Try.prog .any rzOps Q0 (fun w => rzS N al ah bl bh cl ch w0 w) 6 #[true, true, true, true, true, true, true, true, true, true, false, false, false, true, false, false, false] (rzAct op al ah bl bh cl ch N undef undef (.pointer (some ⟨k9, 0, none⟩)) (.pointer (some ⟨N, 0, none⟩)) (.agg #[.int .i64 al, .int .i64 ah]) (.agg #[.int .i64 P.1, .int .i64 P.2]) (.agg #[.int .i64 P.1, .int .i64 P.2]) (.pointer (some ⟨N, 2, none⟩)) (.agg #[.int .i64 bl, .int .i64 bh]) (.agg #[.int .i64 Q.1, .int .i64 Q.2]) (.agg #[.int .i64 Q.1, .int .i64 Q.2]) (.agg #[.int .i64 cl, .int .i64 ch]) (.agg #[.int .i64 R.1, .int .i64 R.2]) undef) v := by
  refine wpAnyH_ready (rs := [10, 11, 12]) (by kernel_rfl) (by simp) ?_
  refine AllReadyH.cons (o := ({ dst := some 27, op := Op.call { callee := Callee.value (Operand.func 10), args := #[Operand.tmp 26], argTypes := #[23] }, type := 25, pos := "law.go:78", after := #[{ on := 9, ground := Ground.data }, { on := 9, ground := Ground.chain }], guard := none } : Oper)) rfl (fun K hK => ?_) (AllReadyH.cons (o := ({ dst := some 7, op := Op.alloc 25, type := 0, pos := "law.go:78", after := #[], guard := none } : Oper)) rfl (fun K hK => ?_) (AllReadyH.cons (o := ({ dst := some 8, op := Op.alloc 25, type := 0, pos := "law.go:78", after := #[], guard := none } : Oper)) rfl (fun K hK => ?_) AllReadyH.nil))
  · dsimp only [rzAct]
    go_simp
    go_at_call 10
    refine (bel2r (to_any _ _ _)).mono ?_
    rintro e v1 ⟨rfl, hb⟩
    refine hK.out _ _ (rz_keep hS hb) (fun hS2 => ?_)
    exact wpAnyH_listed (by kernel_rfl) (rz6_9 Q0 hP op al ah bl bh cl ch P Q R N w0 cA cB cC hQ _ k9 (K9.keep hb) n9  hS2)
  · dsimp only [rzAct]
    go_simp
    have hb : Below v.heap.size v (v.alloc (.cells #[.int .i64 0, .int .i64 0] 25)) := (Below.refl _ _).alloc (Nat.le_refl _) _
    refine hK.out _ _ (rz_keep hS hb) (fun hS2 => ?_)
    exact wpAnyH_listed (by kernel_rfl) (rz5_79 Q0 hP op al ah bl bh cl ch P Q R N w0 cA cB cC hQ _ v.heap.size k9 (Bz.new v 0 0 25) hS.2.2.2.2.2.2.1 (K9.keep hb) n9 (Nat.ne_of_gt K9.1.lt) hS2)
  · dsimp only [rzAct]
    go_simp
    have hb : Below v.heap.size v (v.alloc (.cells #[.int .i64 0, .int .i64 0] 25)) := (Below.refl _ _).alloc (Nat.le_refl _) _
    refine hK.out _ _ (rz_keep hS hb) (fun hS2 => ?_)
    exact wpAnyH_listed (by kernel_rfl) (rz5_89 Q0 hP op al ah bl bh cl ch P Q R N w0 cA cB cC hQ _ v.heap.size k9 (Bz.new v 0 0 25) hS.2.2.2.2.2.2.1 (K9.keep hb) n9 (Nat.ne_of_gt K9.1.lt) hS2)
set_option maxRecDepth 100000 in
set_option maxHeartbeats 8000000 in
theorem rz5_n (Q0 : Exit → Act → World → Prop) (hP : ∀ c (a : Act) d v w, Q0 (.panic c) (a.put d v) w → Q0 (.panic c) a w) (op al ah bl bh cl ch : Int) (P Q R : Int × Int) (N : Nat) (w0 : World) (cA : ∀ w : World, Calls Try.prog 11 #[.agg #[.int .i64 al, .int .i64 ah]] w fun e w' => e = .returned (.agg #[.int .i64 P.1, .int .i64 P.2]) ∧ New2 w w') (cB : ∀ w : World, Calls Try.prog 11 #[.agg #[.int .i64 bl, .int .i64 bh]] w fun e w' => e = .returned (.agg #[.int .i64 Q.1, .int .i64 Q.2]) ∧ New2 w w') (cC : ∀ w : World, Calls Try.prog 11 #[.agg #[.int .i64 cl, .int .i64 ch]] w fun e w' => e = .returned (.agg #[.int .i64 R.1, .int .i64 R.2]) ∧ New2 w w') (hQ : ∀ (v : World) (k7 k8 k9 : Nat), Bz v k7 P.1 P.2 → Bz v k8 Q.1 Q.2 → Bz v k9 R.1 R.2 → k7 ≠ k8 → k7 ≠ k9 → k8 ≠ k9 → Below N w0 v → Q0 .normal (rzAct op al ah bl bh cl ch N (.pointer (some ⟨k7, 0, none⟩)) (.pointer (some ⟨k8, 0, none⟩)) (.pointer (some ⟨k9, 0, none⟩)) (.pointer (some ⟨N, 0, none⟩)) (.agg #[.int .i64 al, .int .i64 ah]) (.agg #[.int .i64 P.1, .int .i64 P.2]) (.agg #[.int .i64 P.1, .int .i64 P.2]) (.pointer (some ⟨N, 2, none⟩)) (.agg #[.int .i64 bl, .int .i64 bh]) (.agg #[.int .i64 Q.1, .int .i64 Q.2]) (.agg #[.int .i64 Q.1, .int .i64 Q.2]) (.agg #[.int .i64 cl, .int .i64 ch]) (.agg #[.int .i64 R.1, .int .i64 R.2]) (.agg #[.int .i64 R.1, .int .i64 R.2])) v) (v : World)   (hS : rzS N al ah bl bh cl ch w0 v) : wpAnyH Try.prog .any rzOps Q0 (fun w => rzS N al ah bl bh cl ch w0 w) 7 #[true, true, true, true, true, true, true, true, true, true, false, false, false, false, false, false, false] (rzAct op al ah bl bh cl ch N undef undef undef (.pointer (some ⟨N, 0, none⟩)) (.agg #[.int .i64 al, .int .i64 ah]) (.agg #[.int .i64 P.1, .int .i64 P.2]) (.agg #[.int .i64 P.1, .int .i64 P.2]) (.pointer (some ⟨N, 2, none⟩)) (.agg #[.int .i64 bl, .int .i64 bh]) (.agg #[.int .i64 Q.1, .int .i64 Q.2]) (.agg #[.int .i64 Q.1, .int .i64 Q.2]) (.agg #[.int .i64 cl, .int .i64 ch]) (.agg #[.int .i64 R.1, .int .i64 R.2]) undef) v := by
  refine wpAnyH_ready (rs := [10, 11, 12, 13]) (by kernel_rfl) (by simp) ?_
  refine AllReadyH.cons (o := ({ dst := some 27, op := Op.call { callee := Callee.value (Operand.func 10), args := #[Operand.tmp 26], argTypes := #[23] }, type := 25, pos := "law.go:78", after := #[{ on := 9, ground := Ground.data }, { on := 9, ground := Ground.chain }], guard := none } : Oper)) rfl (fun K hK => ?_) (AllReadyH.cons (o := ({ dst := some 7, op := Op.alloc 25, type := 0, pos := "law.go:78", after := #[], guard := none } : Oper)) rfl (fun K hK => ?_) (AllReadyH.cons (o := ({ dst := some 8, op := Op.alloc 25, type := 0, pos := "law.go:78", after := #[], guard := none } : Oper)) rfl (fun K hK => ?_) (AllReadyH.cons (o := ({ dst := some 9, op := Op.alloc 25, type := 0, pos := "law.go:78", after := #[], guard := none } : Oper)) rfl (fun K hK => ?_) AllReadyH.nil)))
  · dsimp only [rzAct]
    go_simp
    go_at_call 10
    refine (bel2r (to_any _ _ _)).mono ?_
    rintro e v1 ⟨rfl, hb⟩
    refine hK.out _ _ (rz_keep hS hb) (fun hS2 => ?_)
    exact wpAnyH_listed (by kernel_rfl) (rz6_n Q0 hP op al ah bl bh cl ch P Q R N w0 cA cB cC hQ _    hS2)
  · dsimp only [rzAct]
    go_simp
    have hb : Below v.heap.size v (v.alloc (.cells #[.int .i64 0, .int .i64 0] 25)) := (Below.refl _ _).alloc (Nat.le_refl _) _
    refine hK.out _ _ (rz_keep hS hb) (fun hS2 => ?_)
    exact wpAnyH_listed (by kernel_rfl) (rz5_7 Q0 hP op al ah bl bh cl ch P Q R N w0 cA cB cC hQ _ v.heap.size (Bz.new v 0 0 25) hS.2.2.2.2.2.2.1  hS2)
  · dsimp only [rzAct]
    go_simp
    have hb : Below v.heap.size v (v.alloc (.cells #[.int .i64 0, .int .i64 0] 25)) := (Below.refl _ _).alloc (Nat.le_refl _) _
    refine hK.out _ _ (rz_keep hS hb) (fun hS2 => ?_)
    exact wpAnyH_listed (by kernel_rfl) (rz5_8 Q0 hP op al ah bl bh cl ch P Q R N w0 cA cB cC hQ _ v.heap.size (Bz.new v 0 0 25) hS.2.2.2.2.2.2.1  hS2)
  · dsimp only [rzAct]
    go_simp
    have hb : Below v.heap.size v (v.alloc (.cells #[.int .i64 0, .int .i64 0] 25)) := (Below.refl _ _).alloc (Nat.le_refl _) _
    refine hK.out _ _ (rz_keep hS hb) (fun hS2 => ?_)
    exact wpAnyH_listed (by kernel_rfl) (rz5_9 Q0 hP op al ah bl bh cl ch P Q R N w0 cA cB cC hQ _ v.heap.size (Bz.new v 0 0 25) hS.2.2.2.2.2.2.1  hS2)
end Go.Proofs.Ytpegiljajlljkaa
