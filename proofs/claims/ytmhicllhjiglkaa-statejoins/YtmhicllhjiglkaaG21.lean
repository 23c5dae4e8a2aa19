import Derived.Test.YtmhicllhjiglkaaG20
import Derived.Test.YtmhicllhjiglkaaG14
namespace Go.Proofs.Ytmhicllhjiglkaa
open Go.RowKit
/-- has the other one all that it has? -/
def withinVS (x y : VS) : Bool := if x.r = false then true else y.r && (allV x.us y.us && allS x.ss y.ss)
set_option maxRecDepth 100000 in
set_option maxHeartbeats 8000000 in
theorem within_S0 (a b a2 b2 : Option Addr) (c d c2 d2 : Nat) (r r2 : Bool) (us ts : List V) (ss tt : List (List Int)) (w : World) (e1 : RV w a (us.map V.raw)) (e2 : RR w b ss) (f1 : RV w a2 (ts.map V.raw)) (f2 : RR w b2 tt) (hg : ∀ u ∈ us, u.p &&& 3 = u.p) (hg2 : ∀ u ∈ ts, u.p &&& 3 = u.p) (hl1 : us.length ≤ 100000) (hl3 : ss.length ≤ 100000) (hi1 : ∀ l ∈ ss, l.length ≤ 100000) :
    Calls Try.prog 18 #[.agg #[.bool r, .slice a us.length c, .slice b ss.length d], .agg #[.bool r2, .slice a2 ts.length c2, .slice b2 tt.length d2]] w fun e w' => e = .returned (.bool (withinVS ⟨r, us, ss⟩ ⟨r2, ts, tt⟩)) ∧ Below w.heap.size w w' := by
  have cV := fun w' (h : Below w.heap.size w w') => vwithin_any us ts a a2 c c2 w' (e1.keep h) (f1.keep h) hl1 hg hg2
  have cS := fun w' (h : Below w.heap.size w w') => swithin_S ss tt b b2 d d2 w' (e2.keep h) (f2.keep h) hl3 hi1
  clear e1 e2 f1 f2 hi1 hg hg2
  cases r with
  | false =>
    rw [show withinVS ⟨false, us, ss⟩ ⟨r2, ts, tt⟩ = true from rfl]
    clear cV cS
    go_enter Try.func18, Try.ntmps18
    go_upto_region 1 with fail
    go_name_world W hW
    obtain ⟨B0, -, B1, -, u⟩ := boxes2 w _ _ _ _ _ _ _ _ W hW
    have HU := hide u
    have HB := hide (And.intro B0 B1)
    have x0 := B0.c0
    have x1 := B0.c1
    have x2 := B1.c0
    have x3 := B1.c1
    clear hW B0 B1 u
    go_wp2
    go_ret
    exact ⟨by simp, HU.out⟩
  | true =>
    cases r2 with
    | false =>
      rw [show withinVS ⟨true, us, ss⟩ ⟨false, ts, tt⟩ = false from rfl]
      clear cV cS
      go_enter Try.func18, Try.ntmps18
      go_upto_region 1 with fail
      go_name_world W hW
      obtain ⟨B0, -, B1, -, u⟩ := boxes2 w _ _ _ _ _ _ _ _ W hW
      have HU := hide u
      have HB := hide (And.intro B0 B1)
      have x0 := B0.c0
      have x1 := B0.c1
      have x2 := B1.c0
      have x3 := B1.c1
      clear hW B0 B1 u
      go_wp2
      go_ret
      exact ⟨by simp, HU.out⟩
    | true =>
      rw [show withinVS ⟨true, us, ss⟩ ⟨true, ts, tt⟩ = (allV us ts && allS ss tt) from rfl]
      generalize allV us ts = bv at *
      generalize allS ss tt = bs at *
      cases bv with
      | false =>
        clear cS
        go_enter Try.func18, Try.ntmps18
        go_upto_region 1 with fail
        go_name_world W hW
        obtain ⟨B0, -, B1, -, u⟩ := boxes2 w _ _ _ _ _ _ _ _ W hW
        have HU := hide u
        have HB := hide (And.intro B0 B1)
        have x0 := B0.c0
        have x1 := B0.c1
        have x2 := B1.c0
        have x3 := B1.c1
        clear hW B0 B1 u
        go_wp2_with (go_at_call 47; refine (cV _ HU.out).mono ?_; rintro e wA ⟨rfl, hA⟩; replace hA := hide hA; clear cV x0 x1 x2 x3)
        go_ret
        exact ⟨by simp, HU.out.trans (hA.out.mono HU.out.size)⟩
      | true =>
        go_enter Try.func18, Try.ntmps18
        go_upto_region 1 with fail
        go_name_world W hW
        obtain ⟨B0, -, B1, -, u⟩ := boxes2 w _ _ _ _ _ _ _ _ W hW
        have HU := hide u
        have HB := hide (And.intro B0 B1)
        have x0 := B0.c0
        have x1 := B0.c1
        have x2 := B1.c0
        have x3 := B1.c1
        clear hW B0 B1 u
        go_wp2_with (first | (go_at_call 47; refine (cV _ HU.out).mono ?_; rintro e wA ⟨rfl, hA⟩; have HA := hide hA; have y0 := (HB.out.1.keep hA).c2; have y1 := (HB.out.2.keep hA).c2; clear hA cV x0 x1 x2 x3) | (go_at_call 49; refine (cS _ (HU.out.trans (HA.out.mono HU.out.size))).mono ?_; rintro e wB ⟨rfl, hB⟩; replace hB := hide hB; clear cS))
        go_ret
        exact ⟨by simp, HU.out.trans ((HA.out.trans (hB.out.mono HA.out.size)).mono HU.out.size)⟩
theorem within_S {v1 v2 : Value} {x y : VS} {n m : Nat} {w : World} (h1 : Rs w v1 x.raw) (h2 : Rs w v2 y.raw) (k1 : VOk n x) (k2 : VOk m y) (hn : n ≤ 5000) :
    Calls Try.prog 18 #[v1, v2] w fun e w' => e = .returned (.bool (withinVS x y)) ∧ Below w.heap.size w w' := by
  obtain ⟨a, c, b, d, rfl, e1, e2, -⟩ := h1
  obtain ⟨a2, c2, b2, d2, rfl, f1, f2, -⟩ := h2
  obtain ⟨r, us, ss⟩ := x
  obtain ⟨r2, ts, tt⟩ := y
  have i1 := k1.len
  have i3 := k1.le
  dsimp only [VS.raw] at *
  have t := within_S0 a b a2 b2 c d c2 d2 r r2 us ts ss tt w e1 e2 f1 f2 (fun u hu => (k1.ok u hu).p3) (fun u hu => (k2.ok u hu).p3) (by omega) (by omega) (fun l hl => by have := (k1.up l hl).2; omega)
  rw [List.length_map, List.length_map]
  exact t
/-- two that are the same are Equal -/
theorem equal_same {v1 v2 : Value} {x : VS} {n : Nat} {w : World} (h1 : Rs w v1 x.raw) (h2 : Rs w v2 x.raw) (k1 : VOk n x) (hn : n ≤ 5000) :
    Calls Try.prog 20 #[v1, v2] w fun e w' => e = .returned (.bool true) ∧ Below w.heap.size w w' := by
  have i1 := k1.len
  have i3 := k1.le
  have e : x.raw.vs.length = x.us.length := by unfold VS.raw; rw [List.length_map]
  have e2 : x.raw.ss = x.ss := rfl
  have hi : ∀ l ∈ x.raw.ss, l.length ≤ 100000 := fun l hl => by have := (k1.up l hl).2; omega
  exact (equal_S h1 h2 (by omega) (by omega) (by rw [e2]; omega) (by rw [e2]; omega) hi hi).mono fun _ _ ⟨bv, h3, h4, h5⟩ => ⟨by rw [h3, h5.2 rfl], h4⟩
/-- sets that rise: what is in either -/
theorem uni_mem : ∀ (l m : List Int) (y : Int), y ∈ uniL l m ↔ y ∈ l ∨ y ∈ m := by
  intro l m
  induction l, m using uniL.induct with
  | case1 ys => intro y; simp [uniL]
  | case2 x s => intro y; simp [uniL]
  | case3 x s y t h ih => intro z; rw [uniL, if_pos h, List.mem_cons, ih z]; simp only [List.mem_cons, or_assoc]
  | case4 x s y t h h2 ih =>
    intro z
    rw [uniL, if_neg h, if_pos h2, List.mem_cons, ih z]
    simp only [List.mem_cons]
    constructor
    · rintro (e | (e | e) | e)
      · exact .inr (.inl e)
      · exact .inl (.inl e)
      · exact .inl (.inr e)
      · exact .inr (.inr e)
    · rintro ((e | e) | e | e)
      · exact .inr (.inl (.inl e))
      · exact .inr (.inl (.inr e))
      · exact .inl e
      · exact .inr (.inr e)
  | case5 x s y t h h2 ih =>
    intro z
    have e : x = y := by omega
    subst e
    rw [uniL, if_neg h, if_neg h2, List.mem_cons, ih z]
    simp only [List.mem_cons]
    constructor
    · rintro (e | e | e)
      · exact .inl (.inl e)
      · exact .inl (.inr e)
      · exact .inr (.inr e)
    · rintro ((e | e) | e | e)
      · exact .inl e
      · exact .inr (.inl e)
      · exact .inl e
      · exact .inr (.inr e)
theorem uni_up : ∀ (l m : List Int), UpP l → UpP m → UpP (uniL l m) := by
  intro l m
  induction l, m using uniL.induct with
  | case1 ys => intro _ h; simpa [uniL] using h
  | case2 x s => intro h _; simpa [uniL] using h
  | case3 x s y t h ih =>
    intro h1 h2
    have a := List.pairwise_cons.1 h1
    have b := List.pairwise_cons.1 h2
    rw [uniL, if_pos h]
    refine List.pairwise_cons.2 ⟨fun z hz => ?_, ih a.2 h2⟩
    rcases (uni_mem _ _ z).1 hz with e | e
    · exact a.1 z e
    · rcases List.mem_cons.1 e with e | e
      · omega
      · have := b.1 z e; omega
  | case4 x s y t h h3 ih =>
    intro h1 h2
    have a := List.pairwise_cons.1 h1
    have b := List.pairwise_cons.1 h2
    rw [uniL, if_neg h, if_pos h3]
    refine List.pairwise_cons.2 ⟨fun z hz => ?_, ih h1 b.2⟩
    rcases (uni_mem _ _ z).1 hz with e | e
    · rcases List.mem_cons.1 e with e | e
      · omega
      · have := a.1 z e; omega
    · exact b.1 z e
  | case5 x s y t h h3 ih =>
    intro h1 h2
    have a := List.pairwise_cons.1 h1
    have b := List.pairwise_cons.1 h2
    rw [uniL, if_neg h, if_neg h3]
    refine List.pairwise_cons.2 ⟨fun z hz => ?_, ih a.2 b.2⟩
    rcases (uni_mem _ _ z).1 hz with e | e
    · exact a.1 z e
    · have := b.1 z e; omega
theorem uni_len : ∀ (l m : List Int), (uniL l m).length ≤ l.length + m.length := by
  intro l m
  induction l, m using uniL.induct with
  | case1 ys => simp [uniL]
  | case2 x s => simp [uniL]
  | case3 x s y t h ih => rw [uniL, if_pos h]; simp at *; omega
  | case4 x s y t h h2 ih => rw [uniL, if_neg h, if_pos h2]; simp at *; omega
  | case5 x s y t h h2 ih => rw [uniL, if_neg h, if_neg h2]; simp at *; omega
theorem uni_comm {l m : List Int} (h1 : UpP l) (h2 : UpP m) : uniL l m = uniL m l := (uni_up _ _ h1 h2).ext (uni_up _ _ h2 h1) (fun y => by rw [uni_mem, uni_mem, or_comm])
theorem uni_assoc {l m k : List Int} (h1 : UpP l) (h2 : UpP m) (h3 : UpP k) : uniL (uniL l m) k = uniL l (uniL m k) := (uni_up _ _ (uni_up _ _ h1 h2) h3).ext (uni_up _ _ h1 (uni_up _ _ h2 h3)) (fun y => by simp only [uni_mem, or_assoc])
theorem uni_idem {l : List Int} (h1 : UpP l) : uniL l l = l := (uni_up _ _ h1 h1).ext h1 (fun y => by rw [uni_mem, or_self])
/-- within: all of the one is in the other -/
theorem wi_iff : ∀ (l m : List Int), UpP l → UpP m → (wiL l m = true ↔ ∀ y ∈ l, y ∈ m) := by
  intro l
  induction l with
  | nil => intro m _ _; simp [wiL]
  | cons x s ih =>
    intro m h1 h2
    have a := List.pairwise_cons.1 h1
    have hd : ∀ y, x ≤ y → (y ∈ m ↔ y ∈ m.dropWhile (fun y => decide (y < x))) := fun y hy => by
      have e := List.takeWhile_append_dropWhile (p := fun y => decide (y < x)) (l := m)
      constructor
      · intro hm
        rw [← e] at hm
        rcases List.mem_append.1 hm with t | t
        · have := List.all_eq_true.1 (List.all_takeWhile (p := fun y => decide (y < x)) (l := m)) y t; simp at this; omega
        · exact t
      · intro hm; rw [← e]; exact List.mem_append.2 (.inr hm)
    have hu : UpP (m.dropWhile (fun y => decide (y < x))) := h2.sublist (List.dropWhile_sublist _)
    have hf : ∀ z r, m.dropWhile (fun y => decide (y < x)) = z :: r → x ≤ z := fun z r e => by
      have := List.head?_dropWhile_not (fun y => decide (y < x)) m
      rw [e] at this
      simpa using this
    rw [wiL]
    split
    · rename_i e
      rw [e] at hd
      simp only [Bool.false_eq_true, false_iff]
      intro t
      have := (hd x (Int.le_refl _)).1 (t x (by simp))
      cases this
    · rename_i z r e
      have hz := hf z r e
      rw [e] at hd hu
      by_cases hzx : z = x
      · subst hzx
        rw [if_pos rfl, ih _ a.2 hu]
        constructor
        · intro t y hy
          rcases List.mem_cons.1 hy with rfl | hy
          · exact (hd _ (Int.le_refl _)).2 (by simp)
          · exact (hd y (by have := a.1 y hy; omega)).2 (t y hy)
        · intro t y hy
          exact (hd y (by have := a.1 y hy; omega)).1 (t y (by simp [hy]))
      · rw [if_neg hzx]
        simp only [Bool.false_eq_true, false_iff]
        intro t
        have t2 := (hd x (Int.le_refl _)).1 (t x (by simp))
        have b := List.pairwise_cons.1 hu
        rcases List.mem_cons.1 t2 with e | t2
        · exact hzx e.symm
        · have := b.1 x t2; omega
end Go.Proofs.Ytmhicllhjiglkaa
namespace Go.Proofs.Ytmhicllhjiglkaa
open Go.RowKit
theorem bv_or3 : ∀ x y : BitVec 3, x ≠ 0 → x ||| y ≠ 0 := by decide
theorem bv_and3 : ∀ x y : BitVec 3, x &&& 3 = x → y &&& 3 = y → (x ||| y) &&& 3 = x ||| y := by decide
theorem join_ok (x y : V) (hx : x.ok) (hy : y.ok) : (joinV x y).ok := by
  have a := hx.sp
  have b := hy.sp
  have c := hx.i
  have d := hx.n
  have e := hy.n
  unfold Sp at *
  unfold i64 at *
  dsimp only at a b
  refine ⟨bv_or3 _ _ hx.s, bv_or3 _ _ hx.p, bv_and3 _ _ hx.p3 hy.p3, ?_, ?_, ?_⟩
  · unfold joinV joinI joinN
    dsimp only
    cases hk : x.k <;> cases hk2 : y.k <;> by_cases hn : x.n = y.n <;> simp_all
  · unfold Sp joinV
    dsimp only
    omega
  · unfold i64 joinV joinN
    dsimp only
    split <;> omega
theorem zip_comm {α : Type} (f : α → α → α) : ∀ (a b : List α), (∀ x ∈ a, ∀ y ∈ b, f x y = f y x) → List.zipWith f a b = List.zipWith f b a := by
  intro a
  induction a with
  | nil => intro b _; cases b <;> rfl
  | cons x s ih =>
    intro b h
    cases b with
    | nil => rfl
    | cons y t => rw [List.zipWith_cons_cons, List.zipWith_cons_cons, h x (by simp) y (by simp), ih t (fun u hu v hv => h u (by simp [hu]) v (by simp [hv]))]
theorem zip_assoc {α : Type} (f : α → α → α) : ∀ (a b c : List α), (∀ x ∈ a, ∀ y ∈ b, ∀ z ∈ c, f (f x y) z = f x (f y z)) → List.zipWith f (List.zipWith f a b) c = List.zipWith f a (List.zipWith f b c) := by
  intro a
  induction a with
  | nil => intro b c _; rfl
  | cons x s ih =>
    intro b c h
    cases b with
    | nil => rfl
    | cons y t =>
      cases c with
      | nil => rfl
      | cons z u =>
        simp only [List.zipWith_cons_cons]
        rw [h x (by simp) y (by simp) z (by simp), ih t u (fun p hp q hq r hr => h p (by simp [hp]) q (by simp [hq]) r (by simp [hr]))]
theorem zip_idem {α : Type} (f : α → α → α) : ∀ (a : List α), (∀ x ∈ a, f x x = x) → List.zipWith f a a = a := by
  intro a
  induction a with
  | nil => intro _; rfl
  | cons x s ih => intro h; rw [List.zipWith_cons_cons, h x (by simp), ih (fun y hy => h y (by simp [hy]))]
theorem zip_mem {α : Type} {P : α → Prop} (f : α → α → α) : ∀ (a b : List α), (∀ x ∈ a, ∀ y ∈ b, P (f x y)) → ∀ z ∈ List.zipWith f a b, P z := by
  intro a
  induction a with
  | nil => intro b _ z hz; cases hz
  | cons x s ih =>
    intro b h z hz
    cases b with
    | nil => cases hz
    | cons y t =>
      rw [List.zipWith_cons_cons] at hz
      rcases List.mem_cons.1 hz with rfl | hz
      · exact h x (by simp) y (by simp)
      · exact ih t (fun u hu v hv => h u (by simp [hu]) v (by simp [hv])) z hz
theorem VOk.mono {n m : Nat} {x : VS} (h : VOk n x) (hm : n ≤ m) : VOk m x := ⟨h.len, h.le, h.ok, fun l hl => ⟨(h.up l hl).1, Nat.le_trans (h.up l hl).2 hm⟩, h.nr⟩
theorem tog_ok {op : V → V → V} (ho : ∀ x y, x.ok → y.ok → (op x y).ok) {n m : Nat} {x y : VS} (hx : VOk n x) (hy : VOk m y) : VOk (n + m) (togV op x y) := by
  unfold togV
  split
  · exact hy.mono (by omega)
  · split
    · exact hx.mono (by omega)
    · refine ⟨?_, ?_, ?_, ?_, fun e => by cases e⟩
      · dsimp only; rw [List.length_zipWith, List.length_zipWith, hx.len, hy.len]
      · dsimp only; rw [List.length_zipWith]; have := hx.le; omega
      · exact zip_mem (P := V.ok) op _ _ (fun u hu v hv => ho u v (hx.ok u hu) (hy.ok v hv))
      · exact zip_mem (P := fun l => UpP l ∧ l.length ≤ n + m) uniL _ _ (fun l hl k hk => ⟨uni_up _ _ (hx.up l hl).1 (hy.up k hk).1, by have := uni_len l k; have := (hx.up l hl).2; have := (hy.up k hk).2; omega⟩)
theorem VOk.none {n : Nat} {x : VS} (h : VOk n x) (hr : x.r = false) : x = ⟨false, [], []⟩ := by
  obtain ⟨r, us, ss⟩ := x
  have a := h.nr hr
  have b := h.len
  dsimp only at *
  subst hr a
  have : ss = [] := List.eq_nil_of_length_eq_zero (by simpa using b)
  rw [this]
theorem tog_comm {n m : Nat} {x y : VS} (hx : VOk n x) (hy : VOk m y) : togV joinV x y = togV joinV y x := by
  unfold togV
  cases h1 : x.r <;> cases h2 : y.r
  · simp; rw [hx.none h1, hy.none h2]
  · simp
  · simp
  · simp
    exact ⟨zip_comm joinV _ _ (fun u _ v _ => join_comm u v), zip_comm uniL _ _ (fun l hl k hk => uni_comm (hx.up l hl).1 (hy.up k hk).1)⟩
theorem tog_assoc {n m k : Nat} {x y z : VS} (hx : VOk n x) (hy : VOk m y) (hz : VOk k z) : togV joinV (togV joinV x y) z = togV joinV x (togV joinV y z) := by
  unfold togV
  cases h1 : x.r <;> cases h2 : y.r <;> cases h3 : z.r <;> simp [h1, h2, h3]
  exact ⟨zip_assoc joinV _ _ _ (fun u _ v _ w _ => join_assoc u v w), zip_assoc uniL _ _ _ (fun l hl p hp q hq => uni_assoc (hx.up l hl).1 (hy.up p hp).1 (hz.up q hq).1)⟩
theorem tog_idem {n : Nat} {x : VS} (hx : VOk n x) : togV joinV x x = x := by
  have e1 := zip_idem joinV x.us (fun u hu => join_idem u (hx.ok u hu))
  have e2 := zip_idem uniL x.ss (fun l hl => uni_idem (hx.up l hl).1)
  obtain ⟨r, us, ss⟩ := x
  dsimp only at e1 e2
  unfold togV
  dsimp only
  cases r
  · rfl
  · rw [e1, e2]; rfl
theorem withinV_refl (x : V) (h : x.ok) : withinV x x = true := by
  have := (join_in x x).1
  rw [join_idem x h] at this
  exact this
theorem allV_refl : ∀ (a : List V), (∀ u ∈ a, u.ok) → allV a a = true := by
  intro a
  induction a with
  | nil => intro _; rfl
  | cons x s ih => intro h; rw [allV, withinV_refl x (h x (by simp)), ih (fun u hu => h u (by simp [hu]))]; rfl
theorem allS_refl : ∀ (a : List (List Int)), (∀ l ∈ a, UpP l) → allS a a = true := by
  intro a
  induction a with
  | nil => intro _; rfl
  | cons x s ih => intro h; rw [allS, (wi_iff x x (h x (by simp)) (h x (by simp))).2 (fun y hy => hy), ih (fun u hu => h u (by simp [hu]))]; rfl
theorem allV_join : ∀ (a b : List V), a.length = b.length → allV a (List.zipWith joinV a b) = true ∧ allV b (List.zipWith joinV a b) = true := by
  intro a
  induction a with
  | nil => intro b h; cases b with | nil => exact ⟨rfl, rfl⟩ | cons y t => simp at h
  | cons x s ih => intro b h; cases b with
    | nil => simp at h
    | cons y t =>
      have i := ih t (by simpa using h)
      have j := join_in x y
      simp only [List.zipWith_cons_cons, allV, i, j]
      exact ⟨rfl, rfl⟩
theorem allS_uni : ∀ (a b : List (List Int)), a.length = b.length → (∀ l ∈ a, UpP l) → (∀ l ∈ b, UpP l) → allS a (List.zipWith uniL a b) = true ∧ allS b (List.zipWith uniL a b) = true := by
  intro a
  induction a with
  | nil => intro b h _ _; cases b with | nil => exact ⟨rfl, rfl⟩ | cons y t => simp at h
  | cons x s ih => intro b h h1 h2; cases b with
    | nil => simp at h
    | cons y t =>
      have i := ih t (by simpa using h) (fun l hl => h1 l (by simp [hl])) (fun l hl => h2 l (by simp [hl]))
      have u := uni_up x y (h1 x (by simp)) (h2 y (by simp))
      have j1 := (wi_iff x (uniL x y) (h1 x (by simp)) u).2 (fun z hz => (uni_mem x y z).2 (.inl hz))
      have j2 := (wi_iff y (uniL x y) (h2 y (by simp)) u).2 (fun z hz => (uni_mem x y z).2 (.inr hz))
      simp only [List.zipWith_cons_cons, allS, i, j1, j2]
      exact ⟨rfl, rfl⟩
theorem allV_lub : ∀ (a b c : List V), allV a c = true → allV b c = true → allV (List.zipWith joinV a b) c = true := by
  intro a
  induction a with
  | nil => intro b c h1 h2; cases c with | nil => rfl | cons z u => cases h1
  | cons x s ih => intro b c h1 h2; cases c with
    | nil => cases h1
    | cons z u => cases b with
      | nil => cases h2
      | cons y t =>
        simp only [allV, Bool.and_eq_true] at h1 h2
        simp only [List.zipWith_cons_cons, allV, join_lub x y z h1.1 h2.1, ih t u h1.2 h2.2, Bool.and_self]
theorem allS_lub : ∀ (a b c : List (List Int)), (∀ l ∈ a, UpP l) → (∀ l ∈ b, UpP l) → (∀ l ∈ c, UpP l) → allS a c = true → allS b c = true → allS (List.zipWith uniL a b) c = true := by
  intro a
  induction a with
  | nil => intro b c _ _ _ h1 h2; cases c with | nil => rfl | cons z u => cases h1
  | cons x s ih => intro b c g1 g2 g3 h1 h2; cases c with
    | nil => cases h1
    | cons z u => cases b with
      | nil => cases h2
      | cons y t =>
        simp only [allS, Bool.and_eq_true] at h1 h2
        have a1 := (wi_iff x z (g1 x (by simp)) (g3 z (by simp))).1 h1.1
        have a2 := (wi_iff y z (g2 y (by simp)) (g3 z (by simp))).1 h2.1
        have a3 := (wi_iff (uniL x y) z (uni_up _ _ (g1 x (by simp)) (g2 y (by simp))) (g3 z (by simp))).2 (fun w hw => by rcases (uni_mem x y w).1 hw with t | t; exact a1 w t; exact a2 w t)
        simp only [List.zipWith_cons_cons, allS, a3, ih t u (fun l hl => g1 l (by simp [hl])) (fun l hl => g2 l (by simp [hl])) (fun l hl => g3 l (by simp [hl])) h1.2 h2.2, Bool.and_self]
theorem within_refl {n : Nat} {x : VS} (hx : VOk n x) : withinVS x x = true := by
  unfold withinVS
  cases h : x.r
  · simp
  · simp [allV_refl _ hx.ok, allS_refl _ (fun l hl => (hx.up l hl).1)]
theorem within_join {n m : Nat} {x y : VS} (hx : VOk n x) (hy : VOk m y) (hl : x.us.length = y.us.length) : withinVS x (togV joinV x y) = true ∧ withinVS y (togV joinV x y) = true := by
  cases h1 : x.r
  · have e : togV joinV x y = y := by unfold togV; simp [h1]
    rw [e]
    exact ⟨by unfold withinVS; simp [h1], within_refl hy⟩
  · cases h2 : y.r
    · have e : togV joinV x y = x := by unfold togV; simp [h1, h2]
      rw [e]
      exact ⟨within_refl hx, by unfold withinVS; simp [h2]⟩
    · have e : togV joinV x y = ⟨true, List.zipWith joinV x.us y.us, List.zipWith uniL x.ss y.ss⟩ := by unfold togV; simp [h1, h2]
      rw [e]
      have a := allV_join x.us y.us hl
      have b := allS_uni x.ss y.ss (by rw [hx.len, hy.len, hl]) (fun l hl => (hx.up l hl).1) (fun l hl => (hy.up l hl).1)
      unfold withinVS
      simp [h1, h2, a, b]
theorem within_lub {n m k : Nat} {x y z : VS} (hx : VOk n x) (hy : VOk m y) (hz : VOk k z) (h1 : withinVS x z = true) (h2 : withinVS y z = true) : withinVS (togV joinV x y) z = true := by
  cases hr : x.r
  · have e : togV joinV x y = y := by unfold togV; simp [hr]
    rw [e]; exact h2
  · cases hr2 : y.r
    · have e : togV joinV x y = x := by unfold togV; simp [hr, hr2]
      rw [e]; exact h1
    · have e : togV joinV x y = ⟨true, List.zipWith joinV x.us y.us, List.zipWith uniL x.ss y.ss⟩ := by unfold togV; simp [hr, hr2]
      rw [e]
      unfold withinVS at *
      simp [hr] at h1
      simp [hr2] at h2
      simp [h1.1, allV_lub _ _ _ h1.2.1 h2.2.1, allS_lub _ _ _ (fun l hl => (hx.up l hl).1) (fun l hl => (hy.up l hl).1) (fun l hl => (hz.up l hl).1) h1.2.2 h2.2.2]
end Go.Proofs.Ytmhicllhjiglkaa
namespace Go.Proofs.Ytmhicllhjiglkaa
open Go.RowKit
/-- a State that is made Right, as the document's -/
def Pre (w : World) (v : Value) : Prop := ∃ s us, Rs w v s ∧ SOk s us 6 70
theorem Pre.keep {w w' : World} {v : Value} (h : Pre w v) (hb : Below w.heap.size w w') : Pre w' v := by
  obtain ⟨s, us, h1, h2⟩ := h
  exact ⟨s, us, h1.keep hb, h2⟩
/-- a slice of numbers that lies in none of these blocks -/
def Rlp (w : World) (L : List Nat) (e : Value) (l : List Int) : Prop := ∃ a c, e = .slice a l.length c ∧ (∀ (i : Nat) (y : Int), l[i]? = some y → ∃ b o, a = some ⟨b, o, none⟩ ∧ b ∉ L ∧ w.cell? ⟨b, o + i, none⟩ = some (.int .i64 y)) ∧ l.length ≤ c ∧ (a = none → c = 0)
/-- a State as a value, whose rows lie in none of these blocks -/
def Rp (w : World) (L : List Nat) (v : Value) (s : S) : Prop := ∃ a c b d, v = .agg #[.bool s.r, .slice a s.vs.length c, .slice b s.ss.length d] ∧
  (∀ (m : Nat) (x : R), s.vs[m]? = some x → ∃ b o, a = some ⟨b, o, none⟩ ∧ b ∉ L ∧ B6 w b (o + m * 6) x) ∧
  (∀ (m : Nat) (l : List Int), s.ss[m]? = some l → ∃ b' o e, b = some ⟨b', o, none⟩ ∧ b' ∉ L ∧ w.cell? ⟨b', o + m, none⟩ = some e ∧ Rlp w L e l) ∧
  s.vs.length ≤ c ∧ s.ss.length ≤ d ∧ (a = none → c = 0) ∧ (b = none → d = 0)
theorem Rp.rs {w : World} {L : List Nat} {v : Value} {s : S} (h : Rp w L v s) : Rs w v s := by
  obtain ⟨a, c, b, d, h1, h2, h3, h4⟩ := h
  refine ⟨a, c, b, d, h1, fun m x hx => ?_, fun m l hl => ?_, h4⟩
  · obtain ⟨b1, o1, e1, _, e2⟩ := h2 m x hx
    exact ⟨b1, o1, e1, e2⟩
  · obtain ⟨b1, o1, e, e1, _, e2, ai, ci, rfl, e3, e4⟩ := h3 m l hl
    refine ⟨b1, o1, _, e1, e2, ai, ci, rfl, fun i y hy => ?_, e4⟩
    obtain ⟨b2, o2, rfl, _, hc⟩ := e3 i y hy
    exact ⟨b2, o2, rfl, hc⟩
theorem Rn.rp {w : World} {N : Nat} {v : Value} {s : S} (h : Rn w N v s) {L : List Nat} (hL : ∀ k ∈ L, k < N) : Rp w L v s := by
  obtain ⟨a, c, b, d, h1, h2, h3, h4⟩ := h
  refine ⟨a, c, b, d, h1, fun m x hx => ?_, fun m l hl => ?_, h4⟩
  · obtain ⟨b1, o1, e1, e0, e2⟩ := h2 m x hx
    exact ⟨b1, o1, e1, fun t => by have := hL _ t; omega, e2⟩
  · obtain ⟨b1, o1, e, e1, e0, e2, ⟨ai, ci, rfl, e3, e5⟩, e4⟩ := h3 m l hl
    refine ⟨b1, o1, _, e1, fun t => by have := hL _ t; omega, e2, ai, ci, rfl, fun i y hy => ?_, e5⟩
    obtain ⟨b2, o2, rfl, hc⟩ := e3 i y hy
    exact ⟨b2, o2, rfl, fun t => by have := hL _ t; have := e4 b2 rfl; omega, hc⟩
/-- it stays where all blocks that stood stay, but these -/
theorem Rp.of {w w' : World} {L L' : List Nat} {v : Value} {s : S} (h : Rp w L v s) (hL : ∀ k ∈ L', k ∈ L ∨ w.heap.size ≤ k) (hb : ∀ k, k ∉ L → k < w.heap.size → w'.heap[k]? = w.heap[k]?) : Rp w' L' v s := by
  obtain ⟨a, c, b, d, h1, h2, h3, h4⟩ := h
  have nin : ∀ k, k ∉ L → k < w.heap.size → k ∉ L' := fun k h1 h2 h3 => by rcases hL k h3 with t | t; exact h1 t; omega
  refine ⟨a, c, b, d, h1, fun m x hx => ?_, fun m l hl => ?_, h4⟩
  · obtain ⟨b1, o1, e1, e0, e2⟩ := h2 m x hx
    exact ⟨b1, o1, e1, nin _ e0 e2.lt, e2.of (hb b1 e0 e2.lt)⟩
  · obtain ⟨b1, o1, e, e1, e0, e2, ai, ci, rfl, k1, k2⟩ := h3 m l hl
    have l1 := World.block_lt_of_cell? w _ e2
    refine ⟨b1, o1, _, e1, nin _ e0 l1, (World.cell?_of_block (a := ⟨b1, o1 + m, none⟩) (hb b1 e0 l1)).trans e2, ai, ci, rfl, fun i y hy => ?_, k2⟩
    obtain ⟨b2, o2, rfl, e5, hc⟩ := k1 i y hy
    have l2 := World.block_lt_of_cell? w _ hc
    exact ⟨b2, o2, rfl, nin _ e5 l2, (World.cell?_of_block (a := ⟨b2, o2 + i, none⟩) (hb b2 e5 l2)).trans hc⟩
/-- a State of the document's form, Right, told by x, whose rows lie in none of these blocks -/
def Don (w : World) (L : List Nat) (v : Value) (x : VS) : Prop := VOk 60 x ∧ Rp w L v x.raw
theorem Don.keep {w w' : World} {L : List Nat} {v : Value} {x : VS} (h : Don w L v x) (hb : Below w.heap.size w w') : Don w' L v x := ⟨h.1, h.2.of (fun _ t => .inl t) (fun k _ hk => hb.block k hk)⟩
theorem Don.more {w w' : World} {L L' : List Nat} {v : Value} {x : VS} (h : Don w L v x) (hb : Below w.heap.size w w') (hL : ∀ k ∈ L', k ∈ L ∨ w.heap.size ≤ k) : Don w' L' v x := ⟨h.1, h.2.of hL (fun k _ hk => hb.block k hk)⟩
theorem Don.put {w : World} {L : List Nat} {v : Value} {x : VS} (h : Don w L v x) {q : Nat} (hq : q ∈ L) (r : Bool) (va sa : Value) : Don (st3 w q r va sa) L v x := ⟨h.1, h.2.of (fun _ t => .inl t) (fun k hk _ => st3_block w q r va sa k (fun e => hk (e ▸ hq)))⟩
theorem Bs.far3 {w : World} {q p : Nat} {r : Bool} {va sa : Value} (h : Bs w q r va sa) (hp : q ≠ p) (r1 : Bool) (va1 sa1 : Value) : Bs (st3 w p r1 va1 sa1) q r va sa := h.of (st3_block w p r1 va1 sa1 q hp)
/-- the call that makes the program's State of the document's -/
theorem to_D {w : World} {v : Value} (h : Pre w v) {L : List Nat} (hL : ∀ k ∈ L, k < w.heap.size) : Calls Try.prog 11 #[v] w fun e w' => ∃ v', e = .returned v' ∧ Below w.heap.size w w' ∧ ∃ x, Don w' L v' x := by
  obtain ⟨s, us, ⟨a, c, b, d, rfl, h1, h2, -⟩, h3⟩ := h
  obtain ⟨e1, e2⟩ := h3.vok (by omega)
  have l1 : s.vs.length ≤ 100000 := by have := h3.le; rw [h3.vs, List.length_map]; omega
  have l2 : s.ss.length ≤ 100000 := by have := h3.le; have := h3.len; omega
  refine (to_S a b c d s.r s.vs s.ss w h1 h2 l1 l2 h3.inner).mono ?_
  rintro e w' ⟨v', rfl, hR, hB⟩
  exact ⟨v', rfl, hB, _, e2, e1 ▸ hR.rp hL⟩
end Go.Proofs.Ytmhicllhjiglkaa
