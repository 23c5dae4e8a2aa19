import Derived.Test.YtmhicllhjiglkaaG17
namespace Go.Proofs.Ytmhicllhjiglkaa
open Go.RowKit
/-- has the other one all that it has? -/
def withinVS (x y : VS) : Bool := if x.r = false then true else y.r && (allV x.us y.us && allS x.ss y.ss)
set_option maxRecDepth 100000 in
set_option maxHeartbeats 8000000 in
theorem within_S0 (a b a2 b2 : Option Addr) (c d c2 d2 : Nat) (r r2 : Bool) (us ts : List V) (ss tt : List (List Int)) (w : World) (e1 : RV w a (us.map V.raw)) (e2 : RR w b ss) (f1 : RV w a2 (ts.map V.raw)) (f2 : RR w b2 tt) (hg : ∀ u ∈ us, u.p &&& 3 = u.p) (hg2 : ∀ u ∈ ts, u.p &&& 3 = u.p) (hl1 : us.length ≤ 100000) (hl3 : ss.length ≤ 100000) (hi1 : ∀ l ∈ ss, l.length ≤ 100000) :
    Calls Try.prog 18 #[.agg #[.bool r, .slice a us.length c, .slice b ss.length d], .agg #[.bool r2, .slice a2 ts.length c2, .slice b2 tt.length d2]] w fun e w' => e = .returned (.bool (withinVS ⟨r, us, ss⟩ ⟨r2, ts, tt⟩)) ∧ Below w.heap.size w w' := by
  have cV := fun w' (h : Below w.heap.size w w') => vwithin_any us ts a a2 c c2 w' (e1.keep h) (f1.keep h) hl1 hg hg2
  have cS := fun w' (h : Below w.heap.size w w') => swithin_S ss tt b b2 d d2 w' (e2.keep h) (f2.keep h) hl3 hi1
  clear e1 e2 f1 f2 hi1 hg hg2
  cases r with
  | false =>
    rw [show withinVS ⟨false, us, ss⟩ ⟨r2, ts, tt⟩ = true from rfl]
    clear cV cS
    go_enter Try.func18, Try.ntmps18
    go_upto_region 1 with fail
    go_name_world W hW
    obtain ⟨B0, -, B1, -, u⟩ := boxes2 w _ _ _ _ _ _ _ _ W hW
    have HU := hide u
    have HB := hide (And.intro B0 B1)
    have x0 := B0.c0
    have x1 := B0.c1
    have x2 := B1.c0
    have x3 := B1.c1
    clear hW B0 B1 u
    go_wp2
    go_ret
    exact ⟨by simp, HU.out⟩
  | true =>
    cases r2 with
    | false =>
      rw [show withinVS ⟨true, us, ss⟩ ⟨false, ts, tt⟩ = false from rfl]
      clear cV cS
      go_enter Try.func18, Try.ntmps18
      go_upto_region 1 with fail
      go_name_world W hW
      obtain ⟨B0, -, B1, -, u⟩ := boxes2 w _ _ _ _ _ _ _ _ W hW
      have HU := hide u
      have HB := hide (And.intro B0 B1)
      have x0 := B0.c0
      have x1 := B0.c1
      have x2 := B1.c0
      have x3 := B1.c1
      clear hW B0 B1 u
      go_wp2
      go_ret
      exact ⟨by simp, HU.out⟩
    | true =>
      rw [show withinVS ⟨true, us, ss⟩ ⟨true, ts, tt⟩ = (allV us ts && allS ss tt) from rfl]
      generalize allV us ts = bv at *
      generalize allS ss tt = bs at *
      cases bv with
      | false =>
        clear cS
        go_enter Try.func18, Try.ntmps18
        go_upto_region 1 with fail
        go_name_world W hW
        obtain ⟨B0, -, B1, -, u⟩ := boxes2 w _ _ _ _ _ _ _ _ W hW
        have HU := hide u
        have HB := hide (And.intro B0 B1)
        have x0 := B0.c0
        have x1 := B0.c1
        have x2 := B1.c0
        have x3 := B1.c1
        clear hW B0 B1 u
        go_wp2_with (go_at_call 47; refine (cV _ HU.out).mono ?_; rintro e wA ⟨rfl, hA⟩; replace hA := hide hA; clear cV x0 x1 x2 x3)
        go_ret
        exact ⟨by simp, HU.out.trans (hA.out.mono HU.out.size)⟩
      | true =>
        go_enter Try.func18, Try.ntmps18
        go_upto_region 1 with fail
        go_name_world W hW
        obtain ⟨B0, -, B1, -, u⟩ := boxes2 w _ _ _ _ _ _ _ _ W hW
        have HU := hide u
        have HB := hide (And.intro B0 B1)
        have x0 := B0.c0
        have x1 := B0.c1
        have x2 := B1.c0
        have x3 := B1.c1
        clear hW B0 B1 u
        go_wp2_with (first | (go_at_call 47; refine (cV _ HU.out).mono ?_; rintro e wA ⟨rfl, hA⟩; have HA := hide hA; have y0 := (HB.out.1.keep hA).c2; have y1 := (HB.out.2.keep hA).c2; clear hA cV x0 x1 x2 x3) | (go_at_call 49; refine (cS _ (HU.out.trans (HA.out.mono HU.out.size))).mono ?_; rintro e wB ⟨rfl, hB⟩; replace hB := hide hB; clear cS))
        go_ret
        exact ⟨by simp, HU.out.trans ((HA.out.trans (hB.out.mono HA.out.size)).mono HU.out.size)⟩
theorem within_S {v1 v2 : Value} {x y : VS} {n m : Nat} {w : World} (h1 : Rs w v1 x.raw) (h2 : Rs w v2 y.raw) (k1 : VOk n x) (k2 : VOk m y) (hn : n ≤ 5000) :
    Calls Try.prog 18 #[v1, v2] w fun e w' => e = .returned (.bool (withinVS x y)) ∧ Below w.heap.size w w' := by
  obtain ⟨a, c, b, d, rfl, e1, e2, -⟩ := h1
  obtain ⟨a2, c2, b2, d2, rfl, f1, f2, -⟩ := h2
  obtain ⟨r, us, ss⟩ := x
  obtain ⟨r2, ts, tt⟩ := y
  have i1 := k1.len
  have i3 := k1.le
  dsimp only [VS.raw] at *
  have t := within_S0 a b a2 b2 c d c2 d2 r r2 us ts ss tt w e1 e2 f1 f2 (fun u hu => (k1.ok u hu).p3) (fun u hu => (k2.ok u hu).p3) (by omega) (by omega) (fun l hl => by have := (k1.up l hl).2; omega)
  rw [List.length_map, List.length_map]
  exact t
/-- two that are the same are Equal -/
theorem equal_same {v1 v2 : Value} {x : VS} {n : Nat} {w : World} (h1 : Rs w v1 x.raw) (h2 : Rs w v2 x.raw) (k1 : VOk n x) (hn : n ≤ 5000) :
    Calls Try.prog 20 #[v1, v2] w fun e w' => e = .returned (.bool true) ∧ Below w.heap.size w w' := by
  have i1 := k1.len
  have i3 := k1.le
  have e : x.raw.vs.length = x.us.length := by unfold VS.raw; rw [List.length_map]
  have e2 : x.raw.ss = x.ss := rfl
  have hi : ∀ l ∈ x.raw.ss, l.length ≤ 100000 := fun l hl => by have := (k1.up l hl).2; omega
  exact (equal_S h1 h2 (by omega) (by omega) (by rw [e2]; omega) (by rw [e2]; omega) hi hi).mono fun _ _ ⟨bv, h3, h4, h5⟩ => ⟨by rw [h3, h5.2 rfl], h4⟩
/-- sets that rise: what is in either -/
theorem uni_mem : ∀ (l m : List Int) (y : Int), y ∈ uniL l m ↔ y ∈ l ∨ y ∈ m := by
  intro l m
  induction l, m using uniL.induct with
  | case1 ys => intro y; simp [uniL]
  | case2 x s => intro y; simp [uniL]
  | case3 x s y t h ih => intro z; rw [uniL, if_pos h, List.mem_cons, ih z]; simp only [List.mem_cons, or_assoc]
  | case4 x s y t h h2 ih =>
    intro z
    rw [uniL, if_neg h, if_pos h2, List.mem_cons, ih z]
    simp only [List.mem_cons]
    constructor
    · rintro (e | (e | e) | e)
      · exact .inr (.inl e)
      · exact .inl (.inl e)
      · exact .inl (.inr e)
      · exact .inr (.inr e)
    · rintro ((e | e) | e | e)
      · exact .inr (.inl (.inl e))
      · exact .inr (.inl (.inr e))
      · exact .inl e
      · exact .inr (.inr e)
  | case5 x s y t h h2 ih =>
    intro z
    have e : x = y := by omega
    subst e
    rw [uniL, if_neg h, if_neg h2, List.mem_cons, ih z]
    simp only [List.mem_cons]
    constructor
    · rintro (e | e | e)
      · exact .inl (.inl e)
      · exact .inl (.inr e)
      · exact .inr (.inr e)
    · rintro ((e | e) | e | e)
      · exact .inl e
      · exact .inr (.inl e)
      · exact .inl e
      · exact .inr (.inr e)
theorem uni_up : ∀ (l m : List Int), UpP l → UpP m → UpP (uniL l m) := by
  intro l m
  induction l, m using uniL.induct with
  | case1 ys => intro _ h; simpa [uniL] using h
  | case2 x s => intro h _; simpa [uniL] using h
  | case3 x s y t h ih =>
    intro h1 h2
    have a := List.pairwise_cons.1 h1
    have b := List.pairwise_cons.1 h2
    rw [uniL, if_pos h]
    refine List.pairwise_cons.2 ⟨fun z hz => ?_, ih a.2 h2⟩
    rcases (uni_mem _ _ z).1 hz with e | e
    · exact a.1 z e
    · rcases List.mem_cons.1 e with e | e
      · omega
      · have := b.1 z e; omega
  | case4 x s y t h h3 ih =>
    intro h1 h2
    have a := List.pairwise_cons.1 h1
    have b := List.pairwise_cons.1 h2
    rw [uniL, if_neg h, if_pos h3]
    refine List.pairwise_cons.2 ⟨fun z hz => ?_, ih h1 b.2⟩
    rcases (uni_mem _ _ z).1 hz with e | e
    · rcases List.mem_cons.1 e with e | e
      · omega
      · have := a.1 z e; omega
    · exact b.1 z e
  | case5 x s y t h h3 ih =>
    intro h1 h2
    have a := List.pairwise_cons.1 h1
    have b := List.pairwise_cons.1 h2
    rw [uniL, if_neg h, if_neg h3]
    refine List.pairwise_cons.2 ⟨fun z hz => ?_, ih a.2 b.2⟩
    rcases (uni_mem _ _ z).1 hz with e | e
    · exact a.1 z e
    · have := b.1 z e; omega
theorem uni_len : ∀ (l m : List Int), (uniL l m).length ≤ l.length + m.length := by
  intro l m
  induction l, m using uniL.induct with
  | case1 ys => simp [uniL]
  | case2 x s => simp [uniL]
  | case3 x s y t h ih => rw [uniL, if_pos h]; simp at *; omega
  | case4 x s y t h h2 ih => rw [uniL, if_neg h, if_pos h2]; simp at *; omega
  | case5 x s y t h h2 ih => rw [uniL, if_neg h, if_neg h2]; simp at *; omega
theorem uni_comm {l m : List Int} (h1 : UpP l) (h2 : UpP m) : uniL l m = uniL m l := (uni_up _ _ h1 h2).ext (uni_up _ _ h2 h1) (fun y => by rw [uni_mem, uni_mem, or_comm])
theorem uni_assoc {l m k : List Int} (h1 : UpP l) (h2 : UpP m) (h3 : UpP k) : uniL (uniL l m) k = uniL l (uniL m k) := (uni_up _ _ (uni_up _ _ h1 h2) h3).ext (uni_up _ _ h1 (uni_up _ _ h2 h3)) (fun y => by simp only [uni_mem, or_assoc])
theorem uni_idem {l : List Int} (h1 : UpP l) : uniL l l = l := (uni_up _ _ h1 h1).ext h1 (fun y => by rw [uni_mem, or_self])
/-- within: all of the one is in the other -/
theorem wi_iff : ∀ (l m : List Int), UpP l → UpP m → (wiL l m = true ↔ ∀ y ∈ l, y ∈ m) := by
  intro l
  induction l with
  | nil => intro m _ _; simp [wiL]
  | cons x s ih =>
    intro m h1 h2
    have a := List.pairwise_cons.1 h1
    have hd : ∀ y, x ≤ y → (y ∈ m ↔ y ∈ m.dropWhile (fun y => decide (y < x))) := fun y hy => by
      have e := List.takeWhile_append_dropWhile (p := fun y => decide (y < x)) (l := m)
      constructor
      · intro hm
        rw [← e] at hm
        rcases List.mem_append.1 hm with t | t
        · have := List.all_eq_true.1 (List.all_takeWhile (p := fun y => decide (y < x)) (l := m)) y t; simp at this; omega
        · exact t
      · intro hm; rw [← e]; exact List.mem_append.2 (.inr hm)
    have hu : UpP (m.dropWhile (fun y => decide (y < x))) := h2.sublist (List.dropWhile_sublist _)
    have hf : ∀ z r, m.dropWhile (fun y => decide (y < x)) = z :: r → x ≤ z := fun z r e => by
      have := List.head?_dropWhile_not (fun y => decide (y < x)) m
      rw [e] at this
      simpa using this
    rw [wiL]
    split
    · rename_i e
      rw [e] at hd
      simp only [Bool.false_eq_true, false_iff]
      intro t
      have := (hd x (Int.le_refl _)).1 (t x (by simp))
      cases this
    · rename_i z r e
      have hz := hf z r e
      rw [e] at hd hu
      by_cases hzx : z = x
      · subst hzx
        rw [if_pos rfl, ih _ a.2 hu]
        constructor
        · intro t y hy
          rcases List.mem_cons.1 hy with rfl | hy
          · exact (hd _ (Int.le_refl _)).2 (by simp)
          · exact (hd y (by have := a.1 y hy; omega)).2 (t y hy)
        · intro t y hy
          exact (hd y (by have := a.1 y hy; omega)).1 (t y (by simp [hy]))
      · rw [if_neg hzx]
        simp only [Bool.false_eq_true, false_iff]
        intro t
        have t2 := (hd x (Int.le_refl _)).1 (t x (by simp))
        have b := List.pairwise_cons.1 hu
        rcases List.mem_cons.1 t2 with e | t2
        · exact hzx e.symm
        · have := b.1 x t2; omega
end Go.Proofs.Ytmhicllhjiglkaa
namespace Go.Proofs.Ytmhicllhjiglkaa
open Go.RowKit
theorem bv_or3 : ∀ x y : BitVec 3, x ≠ 0 → x ||| y ≠ 0 := by decide
theorem bv_and3 : ∀ x y : BitVec 3, x &&& 3 = x → y &&& 3 = y → (x ||| y) &&& 3 = x ||| y := by decide
theorem join_ok (x y : V) (hx : x.ok) (hy : y.ok) : (joinV x y).ok := by
  have a := hx.sp
  have b := hy.sp
  have c := hx.i
  have d := hx.n
  have e := hy.n
  unfold Sp at *
  unfold i64 at *
  dsimp only at a b
  refine ⟨bv_or3 _ _ hx.s, bv_or3 _ _ hx.p, bv_and3 _ _ hx.p3 hy.p3, ?_, ?_, ?_⟩
  · unfold joinV joinI joinN
    dsimp only
    cases hk : x.k <;> cases hk2 : y.k <;> by_cases hn : x.n = y.n <;> simp_all
  · unfold Sp joinV
    dsimp only
    omega
  · unfold i64 joinV joinN
    dsimp only
    split <;> omega
theorem zip_comm {α : Type} (f : α → α → α) : ∀ (a b : List α), (∀ x ∈ a, ∀ y ∈ b, f x y = f y x) → List.zipWith f a b = List.zipWith f b a := by
  intro a
  induction a with
  | nil => intro b _; cases b <;> rfl
  | cons x s ih =>
    intro b h
    cases b with
    | nil => rfl
    | cons y t => rw [List.zipWith_cons_cons, List.zipWith_cons_cons, h x (by simp) y (by simp), ih t (fun u hu v hv => h u (by simp [hu]) v (by simp [hv]))]
theorem zip_assoc {α : Type} (f : α → α → α) : ∀ (a b c : List α), (∀ x ∈ a, ∀ y ∈ b, ∀ z ∈ c, f (f x y) z = f x (f y z)) → List.zipWith f (List.zipWith f a b) c = List.zipWith f a (List.zipWith f b c) := by
  intro a
  induction a with
  | nil => intro b c _; rfl
  | cons x s ih =>
    intro b c h
    cases b with
    | nil => rfl
    | cons y t =>
      cases c with
      | nil => rfl
      | cons z u =>
        simp only [List.zipWith_cons_cons]
        rw [h x (by simp) y (by simp) z (by simp), ih t u (fun p hp q hq r hr => h p (by simp [hp]) q (by simp [hq]) r (by simp [hr]))]
theorem zip_idem {α : Type} (f : α → α → α) : ∀ (a : List α), (∀ x ∈ a, f x x = x) → List.zipWith f a a = a := by
  intro a
  induction a with
  | nil => intro _; rfl
  | cons x s ih => intro h; rw [List.zipWith_cons_cons, h x (by simp), ih (fun y hy => h y (by simp [hy]))]
theorem zip_mem {α : Type} {P : α → Prop} (f : α → α → α) : ∀ (a b : List α), (∀ x ∈ a, ∀ y ∈ b, P (f x y)) → ∀ z ∈ List.zipWith f a b, P z := by
  intro a
  induction a with
  | nil => intro b _ z hz; cases hz
  | cons x s ih =>
    intro b h z hz
    cases b with
    | nil => cases hz
    | cons y t =>
      rw [List.zipWith_cons_cons] at hz
      rcases List.mem_cons.1 hz with rfl | hz
      · exact h x (by simp) y (by simp)
      · exact ih t (fun u hu v hv => h u (by simp [hu]) v (by simp [hv])) z hz
theorem VOk.mono {n m : Nat} {x : VS} (h : VOk n x) (hm : n ≤ m) : VOk m x := ⟨h.len, h.le, h.ok, fun l hl => ⟨(h.up l hl).1, Nat.le_trans (h.up l hl).2 hm⟩, h.nr⟩
theorem tog_ok {op : V → V → V} (ho : ∀ x y, x.ok → y.ok → (op x y).ok) {n m : Nat} {x y : VS} (hx : VOk n x) (hy : VOk m y) : VOk (n + m) (togV op x y) := by
  unfold togV
  split
  · exact hy.mono (by omega)
  · split
    · exact hx.mono (by omega)
    · refine ⟨?_, ?_, ?_, ?_, fun e => by cases e⟩
      · dsimp only; rw [List.length_zipWith, List.length_zipWith, hx.len, hy.len]
      · dsimp only; rw [List.length_zipWith]; have := hx.le; omega
      · exact zip_mem (P := V.ok) op _ _ (fun u hu v hv => ho u v (hx.ok u hu) (hy.ok v hv))
      · exact zip_mem (P := fun l => UpP l ∧ l.length ≤ n + m) uniL _ _ (fun l hl k hk => ⟨uni_up _ _ (hx.up l hl).1 (hy.up k hk).1, by have := uni_len l k; have := (hx.up l hl).2; have := (hy.up k hk).2; omega⟩)
theorem VOk.none {n : Nat} {x : VS} (h : VOk n x) (hr : x.r = false) : x = ⟨false, [], []⟩ := by
  obtain ⟨r, us, ss⟩ := x
  have a := h.nr hr
  have b := h.len
  dsimp only at *
  subst hr a
  have : ss = [] := List.eq_nil_of_length_eq_zero (by simpa using b)
  rw [this]
theorem tog_comm {n m : Nat} {x y : VS} (hx : VOk n x) (hy : VOk m y) : togV joinV x y = togV joinV y x := by
  unfold togV
  cases h1 : x.r <;> cases h2 : y.r
  · simp; rw [hx.none h1, hy.none h2]
  · simp
  · simp
  · simp
    exact ⟨zip_comm joinV _ _ (fun u _ v _ => join_comm u v), zip_comm uniL _ _ (fun l hl k hk => uni_comm (hx.up l hl).1 (hy.up k hk).1)⟩
theorem tog_assoc {n m k : Nat} {x y z : VS} (hx : VOk n x) (hy : VOk m y) (hz : VOk k z) : togV joinV (togV joinV x y) z = togV joinV x (togV joinV y z) := by
  unfold togV
  cases h1 : x.r <;> cases h2 : y.r <;> cases h3 : z.r <;> simp [h1, h2, h3]
  exact ⟨zip_assoc joinV _ _ _ (fun u _ v _ w _ => join_assoc u v w), zip_assoc uniL _ _ _ (fun l hl p hp q hq => uni_assoc (hx.up l hl).1 (hy.up p hp).1 (hz.up q hq).1)⟩
theorem tog_idem {n : Nat} {x : VS} (hx : VOk n x) : togV joinV x x = x := by
  have e1 := zip_idem joinV x.us (fun u hu => join_idem u (hx.ok u hu))
  have e2 := zip_idem uniL x.ss (fun l hl => uni_idem (hx.up l hl).1)
  obtain ⟨r, us, ss⟩ := x
  dsimp only at e1 e2
  unfold togV
  dsimp only
  cases r
  · rfl
  · rw [e1, e2]; rfl
theorem withinV_refl (x : V) (h : x.ok) : withinV x x = true := by
  have := (join_in x x).1
  rw [join_idem x h] at this
  exact this
theorem allV_refl : ∀ (a : List V), (∀ u ∈ a, u.ok) → allV a a = true := by
  intro a
  induction a with
  | nil => intro _; rfl
  | cons x s ih => intro h; rw [allV, withinV_refl x (h x (by simp)), ih (fun u hu => h u (by simp [hu]))]; rfl
theorem allS_refl : ∀ (a : List (List Int)), (∀ l ∈ a, UpP l) → allS a a = true := by
  intro a
  induction a with
  | nil => intro _; rfl
  | cons x s ih => intro h; rw [allS, (wi_iff x x (h x (by simp)) (h x (by simp))).2 (fun y hy => hy), ih (fun u hu => h u (by simp [hu]))]; rfl
theorem allV_join : ∀ (a b : List V), a.length = b.length → allV a (List.zipWith joinV a b) = true ∧ allV b (List.zipWith joinV a b) = true := by
  intro a
  induction a with
  | nil => intro b h; cases b with | nil => exact ⟨rfl, rfl⟩ | cons y t => simp at h
  | cons x s ih => intro b h; cases b with
    | nil => simp at h
    | cons y t =>
      have i := ih t (by simpa using h)
      have j := join_in x y
      simp only [List.zipWith_cons_cons, allV, i, j]
      exact ⟨rfl, rfl⟩
theorem allS_uni : ∀ (a b : List (List Int)), a.length = b.length → (∀ l ∈ a, UpP l) → (∀ l ∈ b, UpP l) → allS a (List.zipWith uniL a b) = true ∧ allS b (List.zipWith uniL a b) = true := by
  intro a
  induction a with
  | nil => intro b h _ _; cases b with | nil => exact ⟨rfl, rfl⟩ | cons y t => simp at h
  | cons x s ih => intro b h h1 h2; cases b with
    | nil => simp at h
    | cons y t =>
      have i := ih t (by simpa using h) (fun l hl => h1 l (by simp [hl])) (fun l hl => h2 l (by simp [hl]))
      have u := uni_up x y (h1 x (by simp)) (h2 y (by simp))
      have j1 := (wi_iff x (uniL x y) (h1 x (by simp)) u).2 (fun z hz => (uni_mem x y z).2 (.inl hz))
      have j2 := (wi_iff y (uniL x y) (h2 y (by simp)) u).2 (fun z hz => (uni_mem x y z).2 (.inr hz))
      simp only [List.zipWith_cons_cons, allS, i, j1, j2]
      exact ⟨rfl, rfl⟩
theorem allV_lub : ∀ (a b c : List V), allV a c = true → allV b c = true → allV (List.zipWith joinV a b) c = true := by
  intro a
  induction a with
  | nil => intro b c h1 h2; cases c with | nil => rfl | cons z u => cases h1
  | cons x s ih => intro b c h1 h2; cases c with
    | nil => cases h1
    | cons z u => cases b with
      | nil => cases h2
      | cons y t =>
        simp only [allV, Bool.and_eq_true] at h1 h2
        simp only [List.zipWith_cons_cons, allV, join_lub x y z h1.1 h2.1, ih t u h1.2 h2.2, Bool.and_self]
theorem allS_lub : ∀ (a b c : List (List Int)), (∀ l ∈ a, UpP l) → (∀ l ∈ b, UpP l) → (∀ l ∈ c, UpP l) → allS a c = true → allS b c = true → allS (List.zipWith uniL a b) c = true := by
  intro a
  induction a with
  | nil => intro b c _ _ _ h1 h2; cases c with | nil => rfl | cons z u => cases h1
  | cons x s ih => intro b c g1 g2 g3 h1 h2; cases c with
    | nil => cases h1
    | cons z u => cases b with
      | nil => cases h2
      | cons y t =>
        simp only [allS, Bool.and_eq_true] at h1 h2
        have a1 := (wi_iff x z (g1 x (by simp)) (g3 z (by simp))).1 h1.1
        have a2 := (wi_iff y z (g2 y (by simp)) (g3 z (by simp))).1 h2.1
        have a3 := (wi_iff (uniL x y) z (uni_up _ _ (g1 x (by simp)) (g2 y (by simp))) (g3 z (by simp))).2 (fun w hw => by rcases (uni_mem x y w).1 hw with t | t; exact a1 w t; exact a2 w t)
        simp only [List.zipWith_cons_cons, allS, a3, ih t u (fun l hl => g1 l (by simp [hl])) (fun l hl => g2 l (by simp [hl])) (fun l hl => g3 l (by simp [hl])) h1.2 h2.2, Bool.and_self]
theorem within_refl {n : Nat} {x : VS} (hx : VOk n x) : withinVS x x = true := by
  unfold withinVS
  cases h : x.r
  · simp
  · simp [allV_refl _ hx.ok, allS_refl _ (fun l hl => (hx.up l hl).1)]
theorem within_join {n m : Nat} {x y : VS} (hx : VOk n x) (hy : VOk m y) (hl : x.us.length = y.us.length) : withinVS x (togV joinV x y) = true ∧ withinVS y (togV joinV x y) = true := by
  cases h1 : x.r
  · have e : togV joinV x y = y := by unfold togV; simp [h1]
    rw [e]
    exact ⟨by unfold withinVS; simp [h1], within_refl hy⟩
  · cases h2 : y.r
    · have e : togV joinV x y = x := by unfold togV; simp [h1, h2]
      rw [e]
      exact ⟨within_refl hx, by unfold withinVS; simp [h2]⟩
    · have e : togV joinV x y = ⟨true, List.zipWith joinV x.us y.us, List.zipWith uniL x.ss y.ss⟩ := by unfold togV; simp [h1, h2]
      rw [e]
      have a := allV_join x.us y.us hl
      have b := allS_uni x.ss y.ss (by rw [hx.len, hy.len, hl]) (fun l hl => (hx.up l hl).1) (fun l hl => (hy.up l hl).1)
      unfold withinVS
      simp [h1, h2, a, b]
theorem within_lub {n m k : Nat} {x y z : VS} (hx : VOk n x) (hy : VOk m y) (hz : VOk k z) (h1 : withinVS x z = true) (h2 : withinVS y z = true) : withinVS (togV joinV x y) z = true := by
  cases hr : x.r
  · have e : togV joinV x y = y := by unfold togV; simp [hr]
    rw [e]; exact h2
  · cases hr2 : y.r
    · have e : togV joinV x y = x := by unfold togV; simp [hr, hr2]
      rw [e]; exact h1
    · have e : togV joinV x y = ⟨true, List.zipWith joinV x.us y.us, List.zipWith uniL x.ss y.ss⟩ := by unfold togV; simp [hr, hr2]
      rw [e]
      unfold withinVS at *
      simp [hr] at h1
      simp [hr2] at h2
      simp [h1.1, allV_lub _ _ _ h1.2.1 h2.2.1, allS_lub _ _ _ (fun l hl => (hx.up l hl).1) (fun l hl => (hy.up l hl).1) (fun l hl => (hz.up l hl).1) h1.2.2 h2.2.2]
end Go.Proofs.Ytmhicllhjiglkaa
namespace Go.Proofs.Ytmhicllhjiglkaa
open Go.RowKit
theorem up_len : ∀ (l : List Int) (lo : Int), UpP l → (∀ y ∈ l, lo ≤ y ∧ y < 9) → l.length ≤ (9 - lo).toNat := by
  intro l
  induction l with
  | nil => intro lo _ _; simp
  | cons x t ih =>
    intro lo hu hb
    have h1 := hb x (by simp)
    have h2 := List.pairwise_cons.1 hu
    have h3 := ih (x + 1) h2.2 (fun y hy => by have := h2.1 y hy; have := hb y (by simp [hy]); omega)
    rw [List.length_cons]
    omega
theorem up_sub : ∀ (b a : List Int), UpP a → UpP b → (∀ y ∈ a, y ∈ b) → a.Sublist b := by
  intro b
  induction b with
  | nil => intro a _ _ h; cases a with | nil => exact List.Sublist.slnil | cons x t => exact absurd (h x (by simp)) (by simp)
  | cons z t ih =>
    intro a ha hb h
    have hb2 := List.pairwise_cons.1 hb
    cases a with
    | nil => exact List.nil_sublist _
    | cons x s =>
      have ha2 := List.pairwise_cons.1 ha
      rcases List.mem_cons.1 (h x (by simp)) with e | e
      · subst e
        refine List.Sublist.cons_cons _ (ih s ha2.2 hb2.2 (fun y hy => ?_))
        rcases List.mem_cons.1 (h y (by simp [hy])) with e | e
        · have := ha2.1 y hy; omega
        · exact e
      · have hz := hb2.1 x e
        refine List.Sublist.cons _ (ih (x :: s) ha hb2.2 (fun y hy => ?_))
        rcases List.mem_cons.1 (h y hy) with e2 | e2
        · rcases List.mem_cons.1 hy with e3 | e3
          · omega
          · have := ha2.1 y e3; omega
        · exact e2
theorem uni_more (a b : List Int) (ha : UpP a) (hb : UpP b) : a.length ≤ (uniL a b).length ∧ (uniL a b ≠ a → a.length + 1 ≤ (uniL a b).length) := by
  have s := up_sub (uniL a b) a ha (uni_up a b ha hb) (fun y hy => (uni_mem a b y).2 (.inl hy))
  refine ⟨s.length_le, fun h => ?_⟩
  rcases Nat.lt_or_ge a.length (uniL a b).length with t | t
  · exact t
  · exact absurd (s.eq_of_length_le t).symm h
def potV : List V → Nat
  | [] => 0
  | u :: t => pot u + potV t
def potL : List (List Int) → Nat
  | [] => 0
  | l :: t => (9 - l.length) + potL t
def potS (n : Nat) (x : VS) : Nat := if x.r = false then 1 + n * 15 else potV x.us + potL x.ss
/-- a State of n registers, whose sites are below nine -/
structure W9 (n : Nat) (x : VS) : Prop where
  ok : VOk 9 x
  full : x.r = true → x.us.length = n
  lim : ∀ l ∈ x.ss, ∀ y ∈ l, (0 : Int) ≤ y ∧ y < 9
theorem potV_le : ∀ (us : List V), (∀ u ∈ us, u.ok) → potV us ≤ us.length * 6 := by
  intro us
  induction us with
  | nil => intro _; exact Nat.le_refl _
  | cons u t ih =>
    intro h
    have := pot_le u (h u (by simp))
    have := ih (fun v hv => h v (by simp [hv]))
    rw [potV, List.length_cons]
    omega
theorem potL_le : ∀ (ss : List (List Int)), potL ss ≤ ss.length * 9 := by
  intro ss
  induction ss with
  | nil => exact Nat.le_refl _
  | cons u t ih => rw [potL, List.length_cons]; omega
theorem potV_widen : ∀ (us cs : List V), us.length = cs.length → (∀ u ∈ us, u.ok) → (∀ u ∈ cs, u.ok) → potV (List.zipWith widenV us cs) ≤ potV us ∧ (List.zipWith widenV us cs ≠ us → potV (List.zipWith widenV us cs) + 1 ≤ potV us) := by
  intro us
  induction us with
  | nil => intro cs _ _ _; exact ⟨Nat.le_refl _, fun h => absurd rfl h⟩
  | cons u t ih =>
    intro cs hl h1 h2
    cases cs with
    | nil => simp at hl
    | cons c s =>
      have i := ih s (by simpa using hl) (fun v hv => h1 v (by simp [hv])) (fun v hv => h2 v (by simp [hv]))
      have p := widen_pot u c (h1 u (by simp)) (h2 c (by simp))
      rw [List.zipWith_cons_cons, potV, potV]
      by_cases e : widenV u c = u
      · rw [e]
        refine ⟨by omega, fun h => ?_⟩
        have := i.2 (fun e2 => h (by rw [e2]))
        omega
      · have := p e
        exact ⟨by omega, fun _ => by omega⟩
theorem potL_widen : ∀ (us cs : List (List Int)), us.length = cs.length → (∀ u ∈ us, UpP u) → (∀ u ∈ cs, UpP u) → (∀ l ∈ List.zipWith uniL us cs, l.length ≤ 9) → potL (List.zipWith uniL us cs) ≤ potL us ∧ (List.zipWith uniL us cs ≠ us → potL (List.zipWith uniL us cs) + 1 ≤ potL us) := by
  intro us
  induction us with
  | nil => intro cs _ _ _ _; exact ⟨Nat.le_refl _, fun h => absurd rfl h⟩
  | cons u t ih =>
    intro cs hl h1 h2 h3
    cases cs with
    | nil => simp at hl
    | cons c s =>
      rw [List.zipWith_cons_cons] at h3
      have i := ih s (by simpa using hl) (fun v hv => h1 v (by simp [hv])) (fun v hv => h2 v (by simp [hv])) (fun l hl => h3 l (by simp [hl]))
      have p := uni_more u c (h1 u (by simp)) (h2 c (by simp))
      have q := h3 (uniL u c) (by simp)
      rw [List.zipWith_cons_cons, potL, potL]
      by_cases e : uniL u c = u
      · rw [e]
        refine ⟨by omega, fun h => ?_⟩
        have := i.2 (fun e2 => h (by rw [e2]))
        omega
      · have := p.2 e
        exact ⟨by omega, fun _ => by omega⟩
theorem W9.none (n : Nat) : W9 n ⟨false, [], []⟩ := ⟨⟨rfl, by simp, fun u hu => by simp at hu, fun l hl => by simp at hl, fun _ => rfl⟩, (fun h => (by cases h)), fun l hl => by simp at hl⟩
theorem tog_w9 {n : Nat} {x c : VS} (hx : W9 n x) (hc : W9 n c) : W9 n (togV widenV x c) := by
  have g := tog_ok widen_ok hx.ok hc.ok
  unfold togV at g ⊢
  split
  · exact hc
  · split
    · exact hx
    · rename_i h1 h2
      rw [if_neg h1, if_neg h2] at g
      have r1 : x.r = true := by simpa using h1
      have r2 : c.r = true := by simpa using h2
      have lim : ∀ l ∈ List.zipWith uniL x.ss c.ss, ∀ y ∈ l, (0 : Int) ≤ y ∧ y < 9 := zip_mem (P := fun l => ∀ y ∈ l, (0 : Int) ≤ y ∧ y < 9) uniL _ _ (fun l hl k hk y hy => by rcases (uni_mem l k y).1 hy with t | t; exact hx.lim l hl y t; exact hc.lim k hk y t)
      refine ⟨⟨g.len, g.le, g.ok, fun l hl => ⟨(g.up l hl).1, ?_⟩, g.nr⟩, fun _ => ?_, lim⟩
      · have := up_len l 0 (g.up l hl).1 (lim l hl)
        exact this
      · dsimp only; rw [List.length_zipWith, hx.full r1, hc.full r2]; omega
theorem allV_widen : ∀ (a b : List V), a.length = b.length → (∀ u ∈ a, u.ok) → (∀ u ∈ b, u.ok) → allV a (List.zipWith widenV a b) = true ∧ allV b (List.zipWith widenV a b) = true := by
  intro a
  induction a with
  | nil => intro b h _ _; cases b with | nil => exact ⟨rfl, rfl⟩ | cons y t => simp at h
  | cons x s ih => intro b h h1 h2; cases b with
    | nil => simp at h
    | cons y t =>
      have i := ih t (by simpa using h) (fun v hv => h1 v (by simp [hv])) (fun v hv => h2 v (by simp [hv]))
      have j := widen_in x y (h1 x (by simp)) (h2 y (by simp))
      simp only [List.zipWith_cons_cons, allV, i, j]
      exact ⟨rfl, rfl⟩
theorem widen_within {n : Nat} {x c : VS} (hx : W9 n x) (hc : W9 n c) : withinVS x (togV widenV x c) = true ∧ withinVS c (togV widenV x c) = true := by
  cases h1 : x.r
  · have e : togV widenV x c = c := by unfold togV; simp [h1]
    rw [e]
    exact ⟨by unfold withinVS; simp [h1], within_refl hc.ok⟩
  · cases h2 : c.r
    · have e : togV widenV x c = x := by unfold togV; simp [h1, h2]
      rw [e]
      exact ⟨within_refl hx.ok, by unfold withinVS; simp [h2]⟩
    · have e : togV widenV x c = ⟨true, List.zipWith widenV x.us c.us, List.zipWith uniL x.ss c.ss⟩ := by unfold togV; simp [h1, h2]
      rw [e]
      have hl : x.us.length = c.us.length := by rw [hx.full h1, hc.full h2]
      have a := allV_widen x.us c.us hl hx.ok.ok hc.ok.ok
      have b := allS_uni x.ss c.ss (by rw [hx.ok.len, hc.ok.len, hl]) (fun l hl => (hx.ok.up l hl).1) (fun l hl => (hc.ok.up l hl).1)
      unfold withinVS
      simp [h1, h2, a, b]
theorem widen_potS {n : Nat} {x c : VS} (hx : W9 n x) (hc : W9 n c) : potS n (togV widenV x c) ≤ potS n x ∧ (togV widenV x c ≠ x → potS n (togV widenV x c) + 1 ≤ potS n x) := by
  have hw := tog_w9 hx hc
  have small : ∀ y : VS, W9 n y → y.r = true → potS n y ≤ n * 15 := fun y hy hr => by
    have a := potV_le y.us hy.ok.ok
    have b := potL_le y.ss
    rw [hy.ok.len, hy.full hr] at b
    rw [hy.full hr] at a
    unfold potS
    rw [if_neg (by simp [hr])]
    omega
  cases h1 : x.r
  · have e : togV widenV x c = c := by unfold togV; simp [h1]
    rw [e]
    have p : potS n x = 1 + n * 15 := by unfold potS; rw [if_pos h1]
    cases h2 : c.r
    · have e1 := hx.ok.none h1
      have e2 := hc.ok.none h2
      rw [e1, e2]
      exact ⟨Nat.le_refl _, fun h => absurd rfl h⟩
    · have := small c hc h2
      exact ⟨by omega, fun _ => by omega⟩
  · cases h2 : c.r
    · have e : togV widenV x c = x := by unfold togV; simp [h1, h2]
      rw [e]
      exact ⟨Nat.le_refl _, fun h => absurd rfl h⟩
    · have e : togV widenV x c = ⟨true, List.zipWith widenV x.us c.us, List.zipWith uniL x.ss c.ss⟩ := by unfold togV; simp [h1, h2]
      have hl : x.us.length = c.us.length := by rw [hx.full h1, hc.full h2]
      have a := potV_widen x.us c.us hl hx.ok.ok hc.ok.ok
      rw [e] at hw ⊢
      have b := potL_widen x.ss c.ss (by rw [hx.ok.len, hc.ok.len, hl]) (fun l hl => (hx.ok.up l hl).1) (fun l hl => (hc.ok.up l hl).1) (fun l hl => (hw.ok.up l hl).2)
      have p : potS n x = potV x.us + potL x.ss := by unfold potS; rw [if_neg (by simp [h1])]
      have p2 : potS n ⟨true, List.zipWith widenV x.us c.us, List.zipWith uniL x.ss c.ss⟩ = potV (List.zipWith widenV x.us c.us) + potL (List.zipWith uniL x.ss c.ss) := by unfold potS; rw [if_neg (by simp)]
      rw [p, p2]
      refine ⟨by omega, fun h => ?_⟩
      by_cases q1 : List.zipWith widenV x.us c.us = x.us
      · by_cases q2 : List.zipWith uniL x.ss c.ss = x.ss
        · exfalso
          apply h
          rw [q1, q2, ← h1]
        · have := b.2 q2
          omega
      · have := a.2 q1
        omega
end Go.Proofs.Ytmhicllhjiglkaa
