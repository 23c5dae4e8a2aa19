import Derived.Test.YtmhicllhjiglkaaG09
import Derived.Test.YtmhicllhjiglkaaG04
import Derived.Deep.RegionHeld3
import Derived.Test.YtmhicllhjiglkaaG06
namespace Go.Proofs.Ytmhicllhjiglkaa
open Go.RowKit
/-- has the other one all that it has? -/
def withinVS (x y : VS) : Bool := if x.r = false then true else y.r && (allV x.us y.us && allS x.ss y.ss)
set_option maxRecDepth 100000 in
set_option maxHeartbeats 8000000 in
theorem within_S0 (a b a2 b2 : Option Addr) (c d c2 d2 : Nat) (r r2 : Bool) (us ts : List V) (ss tt : List (List Int)) (w : World) (e1 : RV w a (us.map V.raw)) (e2 : RR w b ss) (f1 : RV w a2 (ts.map V.raw)) (f2 : RR w b2 tt) (hg : ∀ u ∈ us, u.p &&& 3 = u.p) (hg2 : ∀ u ∈ ts, u.p &&& 3 = u.p) (hl1 : us.length ≤ 100000) (hl3 : ss.length ≤ 100000) (hi1 : ∀ l ∈ ss, l.length ≤ 100000) :
    Calls Try.prog 18 #[.agg #[.bool r, .slice a us.length c, .slice b ss.length d], .agg #[.bool r2, .slice a2 ts.length c2, .slice b2 tt.length d2]] w fun e w' => e = .returned (.bool (withinVS ⟨r, us, ss⟩ ⟨r2, ts, tt⟩)) ∧ Below w.heap.size w w' := by
  have cV := fun w' (h : Below w.heap.size w w') => vwithin_any us ts a a2 c c2 w' (e1.keep h) (f1.keep h) hl1 hg hg2
  have cS := fun w' (h : Below w.heap.size w w') => swithin_S ss tt b b2 d d2 w' (e2.keep h) (f2.keep h) hl3 hi1
  clear e1 e2 f1 f2 hi1 hg hg2
  cases r with
  | false =>
    rw [show withinVS ⟨false, us, ss⟩ ⟨r2, ts, tt⟩ = true from rfl]
    clear cV cS
    go_enter Try.func18, Try.ntmps18
    go_upto_region 1 with fail
    go_name_world W hW
    obtain ⟨B0, -, B1, -, u⟩ := boxes2 w _ _ _ _ _ _ _ _ W hW
    have HU := hide u
    have HB := hide (And.intro B0 B1)
    have x0 := B0.c0
    have x1 := B0.c1
    have x2 := B1.c0
    have x3 := B1.c1
    clear hW B0 B1 u
    go_wp2
    go_ret
    exact ⟨by simp, HU.out⟩
  | true =>
    cases r2 with
    | false =>
      rw [show withinVS ⟨true, us, ss⟩ ⟨false, ts, tt⟩ = false from rfl]
      clear cV cS
      go_enter Try.func18, Try.ntmps18
      go_upto_region 1 with fail
      go_name_world W hW
      obtain ⟨B0, -, B1, -, u⟩ := boxes2 w _ _ _ _ _ _ _ _ W hW
      have HU := hide u
      have HB := hide (And.intro B0 B1)
      have x0 := B0.c0
      have x1 := B0.c1
      have x2 := B1.c0
      have x3 := B1.c1
      clear hW B0 B1 u
      go_wp2
      go_ret
      exact ⟨by simp, HU.out⟩
    | true =>
      rw [show withinVS ⟨true, us, ss⟩ ⟨true, ts, tt⟩ = (allV us ts && allS ss tt) from rfl]
      generalize allV us ts = bv at *
      generalize allS ss tt = bs at *
      cases bv with
      | false =>
        clear cS
        go_enter Try.func18, Try.ntmps18
        go_upto_region 1 with fail
        go_name_world W hW
        obtain ⟨B0, -, B1, -, u⟩ := boxes2 w _ _ _ _ _ _ _ _ W hW
        have HU := hide u
        have HB := hide (And.intro B0 B1)
        have x0 := B0.c0
        have x1 := B0.c1
        have x2 := B1.c0
        have x3 := B1.c1
        clear hW B0 B1 u
        go_wp2_with (go_at_call 47; refine (cV _ HU.out).mono ?_; rintro e wA ⟨rfl, hA⟩; replace hA := hide hA; clear cV x0 x1 x2 x3)
        go_ret
        exact ⟨by simp, HU.out.trans (hA.out.mono HU.out.size)⟩
      | true =>
        go_enter Try.func18, Try.ntmps18
        go_upto_region 1 with fail
        go_name_world W hW
        obtain ⟨B0, -, B1, -, u⟩ := boxes2 w _ _ _ _ _ _ _ _ W hW
        have HU := hide u
        have HB := hide (And.intro B0 B1)
        have x0 := B0.c0
        have x1 := B0.c1
        have x2 := B1.c0
        have x3 := B1.c1
        clear hW B0 B1 u
        go_wp2_with (first | (go_at_call 47; refine (cV _ HU.out).mono ?_; rintro e wA ⟨rfl, hA⟩; have HA := hide hA; have y0 := (HB.out.1.keep hA).c2; have y1 := (HB.out.2.keep hA).c2; clear hA cV x0 x1 x2 x3) | (go_at_call 49; refine (cS _ (HU.out.trans (HA.out.mono HU.out.size))).mono ?_; rintro e wB ⟨rfl, hB⟩; replace hB := hide hB; clear cS))
        go_ret
        exact ⟨by simp, HU.out.trans ((HA.out.trans (hB.out.mono HA.out.size)).mono HU.out.size)⟩
theorem within_S {v1 v2 : Value} {x y : VS} {n m : Nat} {w : World} (h1 : Rs w v1 x.raw) (h2 : Rs w v2 y.raw) (k1 : VOk n x) (k2 : VOk m y) (hn : n ≤ 5000) :
    Calls Try.prog 18 #[v1, v2] w fun e w' => e = .returned (.bool (withinVS x y)) ∧ Below w.heap.size w w' := by
  obtain ⟨a, c, b, d, rfl, e1, e2, -⟩ := h1
  obtain ⟨a2, c2, b2, d2, rfl, f1, f2, -⟩ := h2
  obtain ⟨r, us, ss⟩ := x
  obtain ⟨r2, ts, tt⟩ := y
  have i1 := k1.len
  have i3 := k1.le
  dsimp only [VS.raw] at *
  have t := within_S0 a b a2 b2 c d c2 d2 r r2 us ts ss tt w e1 e2 f1 f2 (fun u hu => (k1.ok u hu).p3) (fun u hu => (k2.ok u hu).p3) (by omega) (by omega) (fun l hl => by have := (k1.up l hl).2; omega)
  rw [List.length_map, List.length_map]
  exact t
/-- two that are the same are Equal -/
theorem equal_same {v1 v2 : Value} {x : VS} {n : Nat} {w : World} (h1 : Rs w v1 x.raw) (h2 : Rs w v2 x.raw) (k1 : VOk n x) (hn : n ≤ 5000) :
    Calls Try.prog 20 #[v1, v2] w fun e w' => e = .returned (.bool true) ∧ Below w.heap.size w w' := by
  have i1 := k1.len
  have i3 := k1.le
  have e : x.raw.vs.length = x.us.length := by unfold VS.raw; rw [List.length_map]
  have e2 : x.raw.ss = x.ss := rfl
  have hi : ∀ l ∈ x.raw.ss, l.length ≤ 100000 := fun l hl => by have := (k1.up l hl).2; omega
  exact (equal_S h1 h2 (by omega) (by omega) (by rw [e2]; omega) (by rw [e2]; omega) hi hi).mono fun _ _ ⟨bv, h3, h4, h5⟩ => ⟨by rw [h3, h5.2 rfl], h4⟩
/-- sets that rise: what is in either -/
theorem uni_mem : ∀ (l m : List Int) (y : Int), y ∈ uniL l m ↔ y ∈ l ∨ y ∈ m := by
  intro l m
  induction l, m using uniL.induct with
  | case1 ys => intro y; simp [uniL]
  | case2 x s => intro y; simp [uniL]
  | case3 x s y t h ih => intro z; rw [uniL, if_pos h, List.mem_cons, ih z]; simp only [List.mem_cons, or_assoc]
  | case4 x s y t h h2 ih =>
    intro z
    rw [uniL, if_neg h, if_pos h2, List.mem_cons, ih z]
    simp only [List.mem_cons]
    constructor
    · rintro (e | (e | e) | e)
      · exact .inr (.inl e)
      · exact .inl (.inl e)
      · exact .inl (.inr e)
      · exact .inr (.inr e)
    · rintro ((e | e) | e | e)
      · exact .inr (.inl (.inl e))
      · exact .inr (.inl (.inr e))
      · exact .inl e
      · exact .inr (.inr e)
  | case5 x s y t h h2 ih =>
    intro z
    have e : x = y := by omega
    subst e
    rw [uniL, if_neg h, if_neg h2, List.mem_cons, ih z]
    simp only [List.mem_cons]
    constructor
    · rintro (e | e | e)
      · exact .inl (.inl e)
      · exact .inl (.inr e)
      · exact .inr (.inr e)
    · rintro ((e | e) | e | e)
      · exact .inl e
      · exact .inr (.inl e)
      · exact .inl e
      · exact .inr (.inr e)
theorem uni_up : ∀ (l m : List Int), UpP l → UpP m → UpP (uniL l m) := by
  intro l m
  induction l, m using uniL.induct with
  | case1 ys => intro _ h; simpa [uniL] using h
  | case2 x s => intro h _; simpa [uniL] using h
  | case3 x s y t h ih =>
    intro h1 h2
    have a := List.pairwise_cons.1 h1
    have b := List.pairwise_cons.1 h2
    rw [uniL, if_pos h]
    refine List.pairwise_cons.2 ⟨fun z hz => ?_, ih a.2 h2⟩
    rcases (uni_mem _ _ z).1 hz with e | e
    · exact a.1 z e
    · rcases List.mem_cons.1 e with e | e
      · omega
      · have := b.1 z e; omega
  | case4 x s y t h h3 ih =>
    intro h1 h2
    have a := List.pairwise_cons.1 h1
    have b := List.pairwise_cons.1 h2
    rw [uniL, if_neg h, if_pos h3]
    refine List.pairwise_cons.2 ⟨fun z hz => ?_, ih h1 b.2⟩
    rcases (uni_mem _ _ z).1 hz with e | e
    · rcases List.mem_cons.1 e with e | e
      · omega
      · have := a.1 z e; omega
    · exact b.1 z e
  | case5 x s y t h h3 ih =>
    intro h1 h2
    have a := List.pairwise_cons.1 h1
    have b := List.pairwise_cons.1 h2
    rw [uniL, if_neg h, if_neg h3]
    refine List.pairwise_cons.2 ⟨fun z hz => ?_, ih a.2 b.2⟩
    rcases (uni_mem _ _ z).1 hz with e | e
    · exact a.1 z e
    · have := b.1 z e; omega
theorem uni_len : ∀ (l m : List Int), (uniL l m).length ≤ l.length + m.length := by
  intro l m
  induction l, m using uniL.induct with
  | case1 ys => simp [uniL]
  | case2 x s => simp [uniL]
  | case3 x s y t h ih => rw [uniL, if_pos h]; simp at *; omega
  | case4 x s y t h h2 ih => rw [uniL, if_neg h, if_pos h2]; simp at *; omega
  | case5 x s y t h h2 ih => rw [uniL, if_neg h, if_neg h2]; simp at *; omega
theorem uni_comm {l m : List Int} (h1 : UpP l) (h2 : UpP m) : uniL l m = uniL m l := (uni_up _ _ h1 h2).ext (uni_up _ _ h2 h1) (fun y => by rw [uni_mem, uni_mem, or_comm])
theorem uni_assoc {l m k : List Int} (h1 : UpP l) (h2 : UpP m) (h3 : UpP k) : uniL (uniL l m) k = uniL l (uniL m k) := (uni_up _ _ (uni_up _ _ h1 h2) h3).ext (uni_up _ _ h1 (uni_up _ _ h2 h3)) (fun y => by simp only [uni_mem, or_assoc])
theorem uni_idem {l : List Int} (h1 : UpP l) : uniL l l = l := (uni_up _ _ h1 h1).ext h1 (fun y => by rw [uni_mem, or_self])
/-- within: all of the one is in the other -/
theorem wi_iff : ∀ (l m : List Int), UpP l → UpP m → (wiL l m = true ↔ ∀ y ∈ l, y ∈ m) := by
  intro l
  induction l with
  | nil => intro m _ _; simp [wiL]
  | cons x s ih =>
    intro m h1 h2
    have a := List.pairwise_cons.1 h1
    have hd : ∀ y, x ≤ y → (y ∈ m ↔ y ∈ m.dropWhile (fun y => decide (y < x))) := fun y hy => by
      have e := List.takeWhile_append_dropWhile (p := fun y => decide (y < x)) (l := m)
      constructor
      · intro hm
        rw [← e] at hm
        rcases List.mem_append.1 hm with t | t
        · have := List.all_eq_true.1 (List.all_takeWhile (p := fun y => decide (y < x)) (l := m)) y t; simp at this; omega
        · exact t
      · intro hm; rw [← e]; exact List.mem_append.2 (.inr hm)
    have hu : UpP (m.dropWhile (fun y => decide (y < x))) := h2.sublist (List.dropWhile_sublist _)
    have hf : ∀ z r, m.dropWhile (fun y => decide (y < x)) = z :: r → x ≤ z := fun z r e => by
      have := List.head?_dropWhile_not (fun y => decide (y < x)) m
      rw [e] at this
      simpa using this
    rw [wiL]
    split
    · rename_i e
      rw [e] at hd
      simp only [Bool.false_eq_true, false_iff]
      intro t
      have := (hd x (Int.le_refl _)).1 (t x (by simp))
      cases this
    · rename_i z r e
      have hz := hf z r e
      rw [e] at hd hu
      by_cases hzx : z = x
      · subst hzx
        rw [if_pos rfl, ih _ a.2 hu]
        constructor
        · intro t y hy
          rcases List.mem_cons.1 hy with rfl | hy
          · exact (hd _ (Int.le_refl _)).2 (by simp)
          · exact (hd y (by have := a.1 y hy; omega)).2 (t y hy)
        · intro t y hy
          exact (hd y (by have := a.1 y hy; omega)).1 (t y (by simp [hy]))
      · rw [if_neg hzx]
        simp only [Bool.false_eq_true, false_iff]
        intro t
        have t2 := (hd x (Int.le_refl _)).1 (t x (by simp))
        have b := List.pairwise_cons.1 hu
        rcases List.mem_cons.1 t2 with e | t2
        · exact hzx e.symm
        · have := b.1 x t2; omega
end Go.Proofs.Ytmhicllhjiglkaa
namespace Go.Proofs.Ytmhicllhjiglkaa
open Go.RowKit
theorem bv_or3 : ∀ x y : BitVec 3, x ≠ 0 → x ||| y ≠ 0 := by decide
theorem bv_and3 : ∀ x y : BitVec 3, x &&& 3 = x → y &&& 3 = y → (x ||| y) &&& 3 = x ||| y := by decide
theorem join_ok (x y : V) (hx : x.ok) (hy : y.ok) : (joinV x y).ok := by
  have a := hx.sp
  have b := hy.sp
  have c := hx.i
  have d := hx.n
  have e := hy.n
  unfold Sp at *
  unfold i64 at *
  dsimp only at a b
  refine ⟨bv_or3 _ _ hx.s, bv_or3 _ _ hx.p, bv_and3 _ _ hx.p3 hy.p3, ?_, ?_, ?_⟩
  · unfold joinV joinI joinN
    dsimp only
    cases hk : x.k <;> cases hk2 : y.k <;> by_cases hn : x.n = y.n <;> simp_all
  · unfold Sp joinV
    dsimp only
    omega
  · unfold i64 joinV joinN
    dsimp only
    split <;> omega
theorem zip_comm {α : Type} (f : α → α → α) : ∀ (a b : List α), (∀ x ∈ a, ∀ y ∈ b, f x y = f y x) → List.zipWith f a b = List.zipWith f b a := by
  intro a
  induction a with
  | nil => intro b _; cases b <;> rfl
  | cons x s ih =>
    intro b h
    cases b with
    | nil => rfl
    | cons y t => rw [List.zipWith_cons_cons, List.zipWith_cons_cons, h x (by simp) y (by simp), ih t (fun u hu v hv => h u (by simp [hu]) v (by simp [hv]))]
theorem zip_assoc {α : Type} (f : α → α → α) : ∀ (a b c : List α), (∀ x ∈ a, ∀ y ∈ b, ∀ z ∈ c, f (f x y) z = f x (f y z)) → List.zipWith f (List.zipWith f a b) c = List.zipWith f a (List.zipWith f b c) := by
  intro a
  induction a with
  | nil => intro b c _; rfl
  | cons x s ih =>
    intro b c h
    cases b with
    | nil => rfl
    | cons y t =>
      cases c with
      | nil => rfl
      | cons z u =>
        simp only [List.zipWith_cons_cons]
        rw [h x (by simp) y (by simp) z (by simp), ih t u (fun p hp q hq r hr => h p (by simp [hp]) q (by simp [hq]) r (by simp [hr]))]
theorem zip_idem {α : Type} (f : α → α → α) : ∀ (a : List α), (∀ x ∈ a, f x x = x) → List.zipWith f a a = a := by
  intro a
  induction a with
  | nil => intro _; rfl
  | cons x s ih => intro h; rw [List.zipWith_cons_cons, h x (by simp), ih (fun y hy => h y (by simp [hy]))]
theorem zip_mem {α : Type} {P : α → Prop} (f : α → α → α) : ∀ (a b : List α), (∀ x ∈ a, ∀ y ∈ b, P (f x y)) → ∀ z ∈ List.zipWith f a b, P z := by
  intro a
  induction a with
  | nil => intro b _ z hz; cases hz
  | cons x s ih =>
    intro b h z hz
    cases b with
    | nil => cases hz
    | cons y t =>
      rw [List.zipWith_cons_cons] at hz
      rcases List.mem_cons.1 hz with rfl | hz
      · exact h x (by simp) y (by simp)
      · exact ih t (fun u hu v hv => h u (by simp [hu]) v (by simp [hv])) z hz
theorem VOk.mono {n m : Nat} {x : VS} (h : VOk n x) (hm : n ≤ m) : VOk m x := ⟨h.len, h.le, h.ok, fun l hl => ⟨(h.up l hl).1, Nat.le_trans (h.up l hl).2 hm⟩, h.nr⟩
theorem tog_ok {op : V → V → V} (ho : ∀ x y, x.ok → y.ok → (op x y).ok) {n m : Nat} {x y : VS} (hx : VOk n x) (hy : VOk m y) : VOk (n + m) (togV op x y) := by
  unfold togV
  split
  · exact hy.mono (by omega)
  · split
    · exact hx.mono (by omega)
    · refine ⟨?_, ?_, ?_, ?_, fun e => by cases e⟩
      · dsimp only; rw [List.length_zipWith, List.length_zipWith, hx.len, hy.len]
      · dsimp only; rw [List.length_zipWith]; have := hx.le; omega
      · exact zip_mem (P := V.ok) op _ _ (fun u hu v hv => ho u v (hx.ok u hu) (hy.ok v hv))
      · exact zip_mem (P := fun l => UpP l ∧ l.length ≤ n + m) uniL _ _ (fun l hl k hk => ⟨uni_up _ _ (hx.up l hl).1 (hy.up k hk).1, by have := uni_len l k; have := (hx.up l hl).2; have := (hy.up k hk).2; omega⟩)
theorem VOk.none {n : Nat} {x : VS} (h : VOk n x) (hr : x.r = false) : x = ⟨false, [], []⟩ := by
  obtain ⟨r, us, ss⟩ := x
  have a := h.nr hr
  have b := h.len
  dsimp only at *
  subst hr a
  have : ss = [] := List.eq_nil_of_length_eq_zero (by simpa using b)
  rw [this]
theorem tog_comm {n m : Nat} {x y : VS} (hx : VOk n x) (hy : VOk m y) : togV joinV x y = togV joinV y x := by
  unfold togV
  cases h1 : x.r <;> cases h2 : y.r
  · simp; rw [hx.none h1, hy.none h2]
  · simp
  · simp
  · simp
    exact ⟨zip_comm joinV _ _ (fun u _ v _ => join_comm u v), zip_comm uniL _ _ (fun l hl k hk => uni_comm (hx.up l hl).1 (hy.up k hk).1)⟩
theorem tog_assoc {n m k : Nat} {x y z : VS} (hx : VOk n x) (hy : VOk m y) (hz : VOk k z) : togV joinV (togV joinV x y) z = togV joinV x (togV joinV y z) := by
  unfold togV
  cases h1 : x.r <;> cases h2 : y.r <;> cases h3 : z.r <;> simp [h1, h2, h3]
  exact ⟨zip_assoc joinV _ _ _ (fun u _ v _ w _ => join_assoc u v w), zip_assoc uniL _ _ _ (fun l hl p hp q hq => uni_assoc (hx.up l hl).1 (hy.up p hp).1 (hz.up q hq).1)⟩
theorem tog_idem {n : Nat} {x : VS} (hx : VOk n x) : togV joinV x x = x := by
  have e1 := zip_idem joinV x.us (fun u hu => join_idem u (hx.ok u hu))
  have e2 := zip_idem uniL x.ss (fun l hl => uni_idem (hx.up l hl).1)
  obtain ⟨r, us, ss⟩ := x
  dsimp only at e1 e2
  unfold togV
  dsimp only
  cases r
  · rfl
  · rw [e1, e2]; rfl
theorem withinV_refl (x : V) (h : x.ok) : withinV x x = true := by
  have := (join_in x x).1
  rw [join_idem x h] at this
  exact this
theorem allV_refl : ∀ (a : List V), (∀ u ∈ a, u.ok) → allV a a = true := by
  intro a
  induction a with
  | nil => intro _; rfl
  | cons x s ih => intro h; rw [allV, withinV_refl x (h x (by simp)), ih (fun u hu => h u (by simp [hu]))]; rfl
theorem allS_refl : ∀ (a : List (List Int)), (∀ l ∈ a, UpP l) → allS a a = true := by
  intro a
  induction a with
  | nil => intro _; rfl
  | cons x s ih => intro h; rw [allS, (wi_iff x x (h x (by simp)) (h x (by simp))).2 (fun y hy => hy), ih (fun u hu => h u (by simp [hu]))]; rfl
theorem allV_join : ∀ (a b : List V), a.length = b.length → allV a (List.zipWith joinV a b) = true ∧ allV b (List.zipWith joinV a b) = true := by
  intro a
  induction a with
  | nil => intro b h; cases b with | nil => exact ⟨rfl, rfl⟩ | cons y t => simp at h
  | cons x s ih => intro b h; cases b with
    | nil => simp at h
    | cons y t =>
      have i := ih t (by simpa using h)
      have j := join_in x y
      simp only [List.zipWith_cons_cons, allV, i, j]
      exact ⟨rfl, rfl⟩
theorem allS_uni : ∀ (a b : List (List Int)), a.length = b.length → (∀ l ∈ a, UpP l) → (∀ l ∈ b, UpP l) → allS a (List.zipWith uniL a b) = true ∧ allS b (List.zipWith uniL a b) = true := by
  intro a
  induction a with
  | nil => intro b h _ _; cases b with | nil => exact ⟨rfl, rfl⟩ | cons y t => simp at h
  | cons x s ih => intro b h h1 h2; cases b with
    | nil => simp at h
    | cons y t =>
      have i := ih t (by simpa using h) (fun l hl => h1 l (by simp [hl])) (fun l hl => h2 l (by simp [hl]))
      have u := uni_up x y (h1 x (by simp)) (h2 y (by simp))
      have j1 := (wi_iff x (uniL x y) (h1 x (by simp)) u).2 (fun z hz => (uni_mem x y z).2 (.inl hz))
      have j2 := (wi_iff y (uniL x y) (h2 y (by simp)) u).2 (fun z hz => (uni_mem x y z).2 (.inr hz))
      simp only [List.zipWith_cons_cons, allS, i, j1, j2]
      exact ⟨rfl, rfl⟩
theorem allV_lub : ∀ (a b c : List V), allV a c = true → allV b c = true → allV (List.zipWith joinV a b) c = true := by
  intro a
  induction a with
  | nil => intro b c h1 h2; cases c with | nil => rfl | cons z u => cases h1
  | cons x s ih => intro b c h1 h2; cases c with
    | nil => cases h1
    | cons z u => cases b with
      | nil => cases h2
      | cons y t =>
        simp only [allV, Bool.and_eq_true] at h1 h2
        simp only [List.zipWith_cons_cons, allV, join_lub x y z h1.1 h2.1, ih t u h1.2 h2.2, Bool.and_self]
theorem allS_lub : ∀ (a b c : List (List Int)), (∀ l ∈ a, UpP l) → (∀ l ∈ b, UpP l) → (∀ l ∈ c, UpP l) → allS a c = true → allS b c = true → allS (List.zipWith uniL a b) c = true := by
  intro a
  induction a with
  | nil => intro b c _ _ _ h1 h2; cases c with | nil => rfl | cons z u => cases h1
  | cons x s ih => intro b c g1 g2 g3 h1 h2; cases c with
    | nil => cases h1
    | cons z u => cases b with
      | nil => cases h2
      | cons y t =>
        simp only [allS, Bool.and_eq_true] at h1 h2
        have a1 := (wi_iff x z (g1 x (by simp)) (g3 z (by simp))).1 h1.1
        have a2 := (wi_iff y z (g2 y (by simp)) (g3 z (by simp))).1 h2.1
        have a3 := (wi_iff (uniL x y) z (uni_up _ _ (g1 x (by simp)) (g2 y (by simp))) (g3 z (by simp))).2 (fun w hw => by rcases (uni_mem x y w).1 hw with t | t; exact a1 w t; exact a2 w t)
        simp only [List.zipWith_cons_cons, allS, a3, ih t u (fun l hl => g1 l (by simp [hl])) (fun l hl => g2 l (by simp [hl])) (fun l hl => g3 l (by simp [hl])) h1.2 h2.2, Bool.and_self]
theorem within_refl {n : Nat} {x : VS} (hx : VOk n x) : withinVS x x = true := by
  unfold withinVS
  cases h : x.r
  · simp
  · simp [allV_refl _ hx.ok, allS_refl _ (fun l hl => (hx.up l hl).1)]
theorem within_join {n m : Nat} {x y : VS} (hx : VOk n x) (hy : VOk m y) (hl : x.us.length = y.us.length) : withinVS x (togV joinV x y) = true ∧ withinVS y (togV joinV x y) = true := by
  cases h1 : x.r
  · have e : togV joinV x y = y := by unfold togV; simp [h1]
    rw [e]
    exact ⟨by unfold withinVS; simp [h1], within_refl hy⟩
  · cases h2 : y.r
    · have e : togV joinV x y = x := by unfold togV; simp [h1, h2]
      rw [e]
      exact ⟨within_refl hx, by unfold withinVS; simp [h2]⟩
    · have e : togV joinV x y = ⟨true, List.zipWith joinV x.us y.us, List.zipWith uniL x.ss y.ss⟩ := by unfold togV; simp [h1, h2]
      rw [e]
      have a := allV_join x.us y.us hl
      have b := allS_uni x.ss y.ss (by rw [hx.len, hy.len, hl]) (fun l hl => (hx.up l hl).1) (fun l hl => (hy.up l hl).1)
      unfold withinVS
      simp [h1, h2, a, b]
theorem within_lub {n m k : Nat} {x y z : VS} (hx : VOk n x) (hy : VOk m y) (hz : VOk k z) (h1 : withinVS x z = true) (h2 : withinVS y z = true) : withinVS (togV joinV x y) z = true := by
  cases hr : x.r
  · have e : togV joinV x y = y := by unfold togV; simp [hr]
    rw [e]; exact h2
  · cases hr2 : y.r
    · have e : togV joinV x y = x := by unfold togV; simp [hr, hr2]
      rw [e]; exact h1
    · have e : togV joinV x y = ⟨true, List.zipWith joinV x.us y.us, List.zipWith uniL x.ss y.ss⟩ := by unfold togV; simp [hr, hr2]
      rw [e]
      unfold withinVS at *
      simp [hr] at h1
      simp [hr2] at h2
      simp [h1.1, allV_lub _ _ _ h1.2.1 h2.2.1, allS_lub _ _ _ (fun l hl => (hx.up l hl).1) (fun l hl => (hy.up l hl).1) (fun l hl => (hz.up l hl).1) h1.2.2 h2.2.2]
end Go.Proofs.Ytmhicllhjiglkaa
namespace Go.Proofs.Ytmhicllhjiglkaa
open Go.RowKit
/-- is it a register? -/
abbrev isReg (x : VS) (r : Int) : Prop := x.r = true ∧ 0 ≤ r ∧ r < (x.us.length : Int)
def setVS (x : VS) (r : Int) (u : V) (site : Int) : VS := if isReg x r then ⟨x.r, x.us.set r.toNat u, x.ss.set r.toNat [site]⟩ else x
def shiftVS (x : VS) (n : Int) : VS := ⟨x.r, x.us, x.ss.map (fun l => l.map (fun y => y + n))⟩
def branchVS (x : VS) (r : Int) (yes : Bool) : VS := if isReg x r then (match x.us[r.toNat]? with
  | some u => if (branchV u yes).2 = true then ⟨x.r, x.us.set r.toNat (branchV u yes).1, x.ss⟩ else ⟨false, [], []⟩
  | none => x) else x
theorem brP_sp (a : Int × Int) (yes : Bool) (h : Sp a) (hok : (branchP a yes).2 = true) : Sp (branchP a yes).1 := by
  cases yes
  · have hok : (brF a).2 = true := hok
    show Sp (brF a).1
    unfold brF Sp at *
    by_cases c : a.1 ≤ 0 ∧ 0 ≤ a.2
    · rw [if_pos c]; dsimp only; omega
    · rw [if_neg c] at hok; cases hok
  · have hok : (brT a).2 = true := hok
    show Sp (brT a).1
    unfold brT Sp at *
    split at hok <;> (try split at hok) <;> (try split at hok) <;> (try split at hok) <;> simp_all <;> omega
theorem branch_ok {x : V} {yes : Bool} (hx : x.ok) (h : (branchV x yes).2 = true) : (branchV x yes).1.ok := by
  have h2 := h
  unfold branchV someV at h
  split at h
  · rename_i hc
    have e : branchV x yes = (⟨branchS x.s yes, brI x.k x.n yes, brN x.k x.n yes, (branchP (x.lo, x.hi) yes).1.1, (branchP (x.lo, x.hi) yes).1.2, branchQ x.p yes⟩, true) := by
      unfold branchV someV; rw [if_pos hc]
    rw [e]
    rw [Bool.and_eq_true] at hc
    refine ⟨hc.2.1, hc.2.2, ?_, ?_, ?_, ?_⟩
    · exact (by decide : ∀ (p : BitVec 3) (y : Bool), branchQ p y &&& 3 = branchQ p y) x.p yes
    · dsimp only
      intro hk
      unfold brI at hk
      unfold brN
      cases yes
      · simp
      · simp at hk
        simp only [if_true]
        split
        · rename_i hk2
          have := hk hk2
          exact this
        · rfl
    · exact brP_sp (x.lo, x.hi) yes hx.sp hc.1.2
    · dsimp only
      unfold brN
      have := hx.i
      split
      · split
        · exact this
        · unfold i64; omega
      · unfold i64; omega
  · cases h
theorem allV_set : ∀ (a b : List V) (i : Nat) (u v : V), allV a b = true → withinV u v = true → allV (a.set i u) (b.set i v) = true := by
  intro a
  induction a with
  | nil => intro b i u v h _; cases b with
    | nil => simpa using h
    | cons y t => exact absurd h (by simp [allV])
  | cons x s ih => intro b i u v h hw; cases b with
    | nil => exact absurd h (by simp [allV])
    | cons y t =>
      simp only [allV, Bool.and_eq_true] at h
      cases i with
      | zero => simp only [List.set_cons_zero, allV, Bool.and_eq_true]; exact ⟨hw, h.2⟩
      | succ i => simp only [List.set_cons_succ, allV, Bool.and_eq_true]; exact ⟨h.1, ih t i u v h.2 hw⟩
theorem allS_set : ∀ (a b : List (List Int)) (i : Nat) (u v : List Int), allS a b = true → wiL u v = true → allS (a.set i u) (b.set i v) = true := by
  intro a
  induction a with
  | nil => intro b i u v h _; cases b with
    | nil => simpa using h
    | cons y t => exact absurd h (by simp [allS])
  | cons x s ih => intro b i u v h hw; cases b with
    | nil => exact absurd h (by simp [allS])
    | cons y t =>
      simp only [allS, Bool.and_eq_true] at h
      cases i with
      | zero => simp only [List.set_cons_zero, allS, Bool.and_eq_true]; exact ⟨hw, h.2⟩
      | succ i => simp only [List.set_cons_succ, allS, Bool.and_eq_true]; exact ⟨h.1, ih t i u v h.2 hw⟩
theorem allV_at : ∀ (a b : List V) (i : Nat) (x : V), allV a b = true → a[i]? = some x → ∃ y, b[i]? = some y ∧ withinV x y = true := by
  intro a
  induction a with
  | nil => intro b i x _ h; simp at h
  | cons z s ih => intro b i x h hx; cases b with
    | nil => exact absurd h (by simp [allV])
    | cons y t =>
      simp only [allV, Bool.and_eq_true] at h
      cases i with
      | zero => obtain rfl : z = x := by simpa using hx
                exact ⟨y, rfl, h.1⟩
      | succ i => exact ih t i x h.2 (by simpa using hx)
theorem allV_l {a b : List V} (h : allV a b = true) : a.length = b.length := by
  by_cases e : a.length = b.length
  · exact e
  · rw [allV_len a b e] at h; cases h
theorem up_map (l : List Int) (n : Int) (h : UpP l) : UpP (l.map (fun y => y + n)) := by
  unfold UpP at *
  rw [List.pairwise_map]
  exact h.imp (fun h => by omega)
theorem wi_map (l m : List Int) (n : Int) (h1 : UpP l) (h2 : UpP m) (h : wiL l m = true) : wiL (l.map (fun y => y + n)) (m.map (fun y => y + n)) = true := by
  rw [wi_iff _ _ h1 h2] at h
  rw [wi_iff _ _ (up_map l n h1) (up_map m n h2)]
  intro y hy
  rw [List.mem_map] at hy ⊢
  obtain ⟨z, hz, rfl⟩ := hy
  exact ⟨z, h z hz, rfl⟩
theorem allS_map : ∀ (a b : List (List Int)) (n : Int), (∀ l ∈ a, UpP l) → (∀ l ∈ b, UpP l) → allS a b = true → allS (a.map (fun l => l.map (fun y => y + n))) (b.map (fun l => l.map (fun y => y + n))) = true := by
  intro a
  induction a with
  | nil => intro b n _ _ h; cases b with
    | nil => rfl
    | cons y t => exact absurd h (by simp [allS])
  | cons x s ih => intro b n h1 h2 h; cases b with
    | nil => exact absurd h (by simp [allS])
    | cons y t =>
      simp only [allS, Bool.and_eq_true] at h
      simp only [List.map_cons, allS, Bool.and_eq_true]
      exact ⟨wi_map x y n (h1 x (by simp)) (h2 y (by simp)) h.1, ih t n (fun l hl => h1 l (by simp [hl])) (fun l hl => h2 l (by simp [hl])) h.2⟩
theorem set_mem9 {α : Type} {P : α → Prop} {l : List α} {i : Nat} {u : α} (hl : ∀ x ∈ l, P x) (hu : P u) : ∀ x ∈ l.set i u, P x := fun x hx => by
  rcases List.mem_or_eq_of_mem_set hx with h | h
  · exact hl x h
  · rw [h]; exact hu
theorem set_ok {n : Nat} {x : VS} (h : VOk n x) (hn : 1 ≤ n) (r : Int) {u : V} (hu : u.ok) (site : Int) : VOk n (setVS x r u site) := by
  unfold setVS
  split
  · refine ⟨by simp [h.len], by simp; exact h.le, set_mem9 h.ok hu, set_mem9 h.up ⟨by simp [UpP], by simpa using hn⟩, fun e => ?_⟩
    rename_i hc
    rw [hc.1] at e; cases e
  · exact h
theorem shift_ok {n : Nat} {x : VS} (h : VOk n x) (k : Int) : VOk n (shiftVS x k) := by
  refine ⟨by simp [shiftVS, h.len], h.le, h.ok, fun l hl => ?_, h.nr⟩
  obtain ⟨m, hm, rfl⟩ := List.mem_map.1 hl
  exact ⟨up_map m k (h.up m hm).1, by rw [List.length_map]; exact (h.up m hm).2⟩
theorem none_ok (n : Nat) : VOk n ⟨false, [], []⟩ := ⟨rfl, by simp, fun u hu => by simp at hu, fun l hl => by simp at hl, fun _ => rfl⟩
theorem branch_okS {n : Nat} {x : VS} (h : VOk n x) (r : Int) (yes : Bool) : VOk n (branchVS x r yes) := by
  unfold branchVS
  split
  · rename_i hc
    split
    · rename_i u hu
      split
      · rename_i hb
        refine ⟨by simp [h.len], by simp; exact h.le, set_mem9 h.ok (branch_ok (h.ok u (List.mem_of_getElem? hu)) hb), h.up, fun e => ?_⟩
        rw [hc.1] at e; cases e
      · exact none_ok n
    · exact h
  · exact h
theorem within_parts {x y : VS} (h : withinVS x y = true) (hx : x.r = true) : y.r = true ∧ allV x.us y.us = true ∧ allS x.ss y.ss = true := by
  unfold withinVS at h
  rw [if_neg (by simp [hx])] at h
  simpa [Bool.and_eq_true] using h
theorem within_mk {x y : VS} (hy : y.r = true) (h1 : allV x.us y.us = true) (h2 : allS x.ss y.ss = true) : withinVS x y = true := by
  unfold withinVS
  split
  · rfl
  · rw [hy, h1, h2]; rfl
theorem within_no {x y : VS} (h : x.r = false) : withinVS x y = true := by unfold withinVS; rw [if_pos h]
theorem mono_set {n m : Nat} {x y : VS} (_hx : VOk n x) (_hy : VOk m y) (h : withinVS x y = true) (r : Int) {u : V} (hu : u.ok) (site : Int) : withinVS (setVS x r u site) (setVS y r u site) = true := by
  cases hr : x.r
  · have e : setVS x r u site = x := by unfold setVS; rw [if_neg (by simp [hr])]
    rw [e]; exact within_no hr
  · obtain ⟨h1, h2, h3⟩ := within_parts h hr
    have hl := allV_l h2
    unfold setVS
    by_cases c : isReg x r
    · rw [if_pos c, if_pos ⟨h1, c.2.1, by rw [← hl]; exact c.2.2⟩]
      exact within_mk h1 (allV_set _ _ _ _ _ h2 (withinV_refl u hu)) (allS_set _ _ _ _ _ h3 ((wi_iff _ _ (by simp [UpP]) (by simp [UpP])).2 (fun _ h => h)))
    · rw [if_neg c, if_neg (fun d => c ⟨hr, d.2.1, by rw [hl]; exact d.2.2⟩)]
      exact h
theorem mono_shift {n m : Nat} {x y : VS} (hx : VOk n x) (hy : VOk m y) (h : withinVS x y = true) (k : Int) : withinVS (shiftVS x k) (shiftVS y k) = true := by
  cases hr : x.r
  · exact within_no (x := shiftVS x k) hr
  · obtain ⟨h1, h2, h3⟩ := within_parts h hr
    exact within_mk (x := shiftVS x k) (y := shiftVS y k) h1 h2 (allS_map _ _ k (fun l hl => (hx.up l hl).1) (fun l hl => (hy.up l hl).1) h3)
theorem mono_branch {n m : Nat} {x y : VS} (hx : VOk n x) (_hy : VOk m y) (h : withinVS x y = true) (r : Int) (yes : Bool) : withinVS (branchVS x r yes) (branchVS y r yes) = true := by
  cases hr : x.r
  · have e : branchVS x r yes = x := by unfold branchVS; rw [if_neg (by simp [hr])]
    rw [e]; exact within_no hr
  · obtain ⟨h1, h2, h3⟩ := within_parts h hr
    have hl := allV_l h2
    unfold branchVS
    by_cases c : isReg x r
    · rw [if_pos c, if_pos ⟨h1, c.2.1, by rw [← hl]; exact c.2.2⟩]
      obtain ⟨u, hu⟩ : ∃ u, x.us[r.toNat]? = some u := ⟨_, List.getElem?_eq_getElem (by have := c.2; omega)⟩
      obtain ⟨v, hv, hw⟩ := allV_at _ _ _ _ h2 hu
      rw [hu, hv]
      dsimp only
      by_cases b : (branchV u yes).2 = true
      · have t := branch_risesV yes u v (hx.ok u (List.mem_of_getElem? hu)) hw b
        rw [if_pos b, if_pos t.1]
        exact within_mk h1 (allV_set _ _ _ _ _ h2 t.2) h3
      · rw [if_neg b]
        exact within_no rfl
    · rw [if_neg c, if_neg (fun d => c ⟨hr, d.2.1, by rw [hl]; exact d.2.2⟩)]
      exact h
end Go.Proofs.Ytmhicllhjiglkaa
namespace Go.Proofs.Ytmhicllhjiglkaa
open Go.RowKit
/-- no two rows share a block -/
def Dis (es : List Value) : Prop := es.Pairwise (fun a b => ∀ k, a.ownBlock = some k → b.ownBlock ≠ some k)
/-- a State, all of the call's own -/
def Own3 (w : World) (B : Nat) (T : TypeId) (v : Value) (s : S) : Prop := ∃ va sa es, v = .agg #[.bool s.r, va, sa] ∧ OwV w B T va s.vs ∧ OwR w B sa es ∧ Inn w B es s.ss ∧ Dis es
structure Lo3 (w : World) (B1 B q : Nat) (T : TypeId) (s : S) (va sa : Value) (es : List Value) : Prop extends Lo2 w B1 B q T s va sa es where
  dis : Dis es
theorem Lo3.of {w w' : World} {B1 B q : Nat} {T : TypeId} {s : S} {va sa : Value} {es : List Value} (h : Lo3 w B1 B q T s va sa es) (hb : Below w.heap.size w w') : Lo3 w' B1 B q T s va sa es := ⟨h.toLo2.of hb, h.dis⟩
theorem Lo3.boxR {w w' : World} {B1 B q : Nat} {T : TypeId} {s : S} {va sa : Value} {es : List Value} (h : Lo3 w B1 B q T s va sa es) (hg : w.grownBy w' sa.ownBlock) : Bs w' q s.r va sa ∧ Fs w' q := h.toLo2.boxR hg
theorem Lo3.belR {W w w' : World} {B1 B q : Nat} {T : TypeId} {s : S} {va sa : Value} {es : List Value} (h : Lo3 w B1 B q T s va sa es) (hb : Below q W w) (hg : w.grownBy w' sa.ownBlock) : Below q W w' := h.toLo2.belR hb hg
theorem Dis.app {es : List Value} {e : Value} (h : Dis es) (hd : ∀ e2 ∈ es, ∀ k, e2.ownBlock = some k → e.ownBlock ≠ some k) : Dis (es ++ [e]) := by
  unfold Dis at *
  rw [List.pairwise_append]
  exact ⟨h, List.pairwise_singleton _ _, fun a ha b hb => by rw [List.mem_singleton.1 hb]; exact hd a ha⟩
theorem Lo3.appR {w w' : World} {B1 B q : Nat} {T : TypeId} {s : S} {va sa sa' e : Value} {es : List Value} {l : List Int} (h : Lo3 w B1 B q T s va sa es) (hT : T ≠ 38) (he : OwI w B e l) (hd : ∀ e2 ∈ es, ∀ k, e2.ownBlock = some k → e.ownBlock ≠ some k) (ho : OwR w' B sa' (es ++ [e])) (hg : w.grownBy w' sa.ownBlock) : Lo3 (w'.setCell ⟨q, 2, none⟩ sa') B1 B q T ⟨s.r, s.vs, s.ss ++ [l]⟩ va sa' (es ++ [e]) :=
  ⟨h.toLo2.appR hT he ho hg, h.dis.app hd⟩
theorem Inn.lt9 {w : World} {B : Nat} {es : List Value} {ss : List (List Int)} (h : Inn w B es ss) : ∀ e ∈ es, ∀ k, e.ownBlock = some k → k < w.heap.size := fun e he k hk => by
  obtain ⟨m, hm, rfl⟩ := List.mem_iff_getElem.1 he
  obtain ⟨e2, h1, h2⟩ := h.2 m (ss[m]'(by have := h.1; omega)) (by simp)
  rw [List.getElem?_eq_getElem hm] at h1
  obtain rfl := Option.some.inj h1
  exact (h2.lt k hk).2
theorem Inn.fresh {w w' : World} {B : Nat} {es : List Value} {ss : List (List Int)} {v : Value} {l : List Int} (h : Inn w B es ss) (hS : St w w' v l) : ∀ e2 ∈ es, ∀ k, e2.ownBlock = some k → v.ownBlock ≠ some k := fun e2 he k hk hv => by
  have a := h.lt9 e2 he k hk
  have b := ((hS.owi (Nat.le_refl _)).lt k hv).1
  omega
theorem Inn.mono {w : World} {B B' : Nat} {es : List Value} {ss : List (List Int)} (h : Inn w B es ss) (hB : B' ≤ B) : Inn w B' es ss := ⟨h.1, fun m l hm => by obtain ⟨e, h1, h2⟩ := h.2 m l hm; exact ⟨e, h1, ownsRow_mono h2 hB⟩⟩
theorem Lo3.far3 {w : World} {B1 B q : Nat} {T : TypeId} {s : S} {va sa : Value} {es : List Value} (h : Lo3 w B1 B q T s va sa es) (p : Nat) (r : Bool) (v1 v2 : Value) (hp : p < B) (hp1 : p < B1) (hne : p ≠ q) : Lo3 (st3 w p r v1 v2) B1 B q T s va sa es := ⟨h.toLo2.far3 p r v1 v2 hp hp1 hne, h.dis⟩
theorem Lo3.own {w : World} {N B1 B q : Nat} {T : TypeId} {s : S} {va sa : Value} {es : List Value} (h : Lo3 w B1 B q T s va sa es) (h1 : N ≤ B1) (h2 : N ≤ B) : Own3 w N T (.agg #[.bool s.r, va, sa]) s := ⟨va, sa, es, rfl, ownsRow_mono h.ov h1, ownsRow_mono h.os h2, h.inn.mono h2, h.dis⟩
set_option maxRecDepth 100000 in
set_option maxHeartbeats 8000000 in
theorem copyO (a b : Option Addr) (c d : Nat) (r : Bool) (vs : List R) (ss : List (List Int)) (w : World) (hv : RV w a vs) (hs : RR w b ss) (hvc : vs.length ≤ c) (hva : a = none → c = 0) (hl1 : vs.length ≤ 100000) (hl2 : ss.length ≤ 100000) (hl3 : ∀ (m : Nat) (l : List Int), ss[m]? = some l → l.length ≤ 100000) :
    Calls Try.prog 22 #[.agg #[.bool r, .slice a vs.length c, .slice b ss.length d]] w fun e w' => ∃ v, e = .returned v ∧ Own3 w' w.heap.size 53 v ⟨r, vs, ss⟩ ∧ Below w.heap.size w w' := by
  have HVw := hide hv
  have HRw := hide hs
  have HL3 := hide hl3
  clear hv hs hl3
  go_enter Try.func22, Try.ntmps22
  go_upto_region 1 with fail
  go_name_world W hW
  obtain ⟨q1, h1⟩ : ∃ z9, z9 = w.heap.size + 1 := ⟨_, rfl⟩
  rw [← h1]
  obtain ⟨q0, h0⟩ : ∃ z9, z9 = w.heap.size := ⟨_, rfl⟩
  rw [← h0]
  obtain ⟨B0, -, B1, F1, u⟩ := boxes2 w _ _ _ _ _ _ _ _ W hW
  rw [← h0] at B0
  rw [← h1] at B1 F1
  have KW : Hid (Bs W q0 r (.slice a vs.length c) (.slice b ss.length d) ∧ Bs W q1 false (.slice none 0 0) (.slice none 0 0) ∧ Fs W q1) := ⟨B0, B1, F1⟩
  have BW := hide u
  have HQ : Hid (w.heap.size ≤ q1 ∧ q0 < q1) := hide (by omega)
  have HV := hide (HVw.out.keep u)
  have HS : Hid (∀ w', Below W.heap.size W w' → (w'.cell? ⟨q0, 0, none⟩ = some (.bool r) ∧ w'.cell? ⟨q0, 1, none⟩ = some (.slice a vs.length c) ∧ w'.cell? ⟨q0, 2, none⟩ = some (.slice b ss.length d))) := fun w' h => by
    have t := KW.out.1.keep h
    exact ⟨t.c0, t.c1, t.c2⟩
  clear hW h1 h0 B0 B1 F1 u
  obtain ⟨N1, hN1⟩ : ∃ z9, z9 = W.heap.size := ⟨_, rfl⟩
  have HN1 : Hid (q1 < N1) := hide (by rw [hN1]; exact KW.out.2.1.lt)
  replace hN1 := hide hN1
  go_cut [3] (fun s3 wx => ∃ (q2 : Nat) (a5 : Option Addr) (c5 : Nat), s3 = .pointer (some ⟨q2, 0, none⟩) ∧ W.heap.size ≤ q2 ∧ Hid ((Bs wx q0 r (.slice a vs.length c) (.slice b ss.length d) ∧ Bs wx q1 false (.slice none 0 0) (.slice none 0 0) ∧ Fs wx q1) ∧ Lo3 wx W.heap.size (q2 + 1) q2 53 ⟨r, vs, []⟩ (.slice a5 vs.length c5) (.slice none 0 0) [] ∧ Below w.heap.size w wx))
  case first =>
    refine wp_region_held_drew (S := fun w' => w'.cell? ⟨q0, 0, none⟩ = some (.bool r) ∧ w'.cell? ⟨q0, 1, none⟩ = some (.slice a vs.length c) ∧ w'.cell? ⟨q0, 2, none⟩ = some (.slice b ss.length d)) (by kernel_rfl) (HS.out _ (Below.refl _ _).drew) (fun hH0 => ?_)
    obtain ⟨w0, hw0⟩ : ∃ w0, w0 = W.drew := ⟨_, rfl⟩
    (try rw [← hw0] at hH0)
    rw [← hw0]
    have b0 : Hid (Below W.heap.size W w0) := hw0 ▸ hide (Below.refl _ _).drew
    clear hw0
    refine wpAnyH_take (i := 0) (oi := ({ dst := some 6, op := Op.fieldAddr 29 (Operand.tmp 1) 0, type := 0, pos := _, after := _, guard := _ } : Oper)) (v := ?_) rfl (by kernel_rfl) (by kernel_rfl) (by kernel_rfl) (fun _ _ _ h => h) (Or.inl ⟨by rfl, ?_⟩) (by assumption) ?_
    rotate_left
    · (intro wz hSw; (try dsimp only at hSw); go_simp; try with_reducible rfl)
    simp only [Act.put, List.setIfInBounds_toArray, List.set_cons_zero, List.set_cons_succ]
    refine wpAnyH_take (i := 1) (oi := ({ dst := some 7, op := Op.load 4 (Operand.tmp 6), type := 4, pos := _, after := _, guard := _ } : Oper)) (v := ?_) rfl (by kernel_rfl) (by kernel_rfl) (by kernel_rfl) (fun _ _ _ h => h) (Or.inl ⟨by rfl, ?_⟩) (by assumption) ?_
    rotate_left
    · (intro wz hSw; (try dsimp only at hSw); go_simp; try with_reducible rfl)
    simp only [Act.put, List.setIfInBounds_toArray, List.set_cons_zero, List.set_cons_succ]
    refine wpAnyH_take (i := 2) (oi := ({ dst := some 8, op := Op.fieldAddr 29 (Operand.tmp 1) 1, type := 0, pos := _, after := _, guard := _ } : Oper)) (v := ?_) rfl (by kernel_rfl) (by kernel_rfl) (by kernel_rfl) (fun _ _ _ h => h) (Or.inl ⟨by rfl, ?_⟩) (by assumption) ?_
    rotate_left
    · (intro wz hSw; (try dsimp only at hSw); go_simp; try with_reducible rfl)
    simp only [Act.put, List.setIfInBounds_toArray, List.set_cons_zero, List.set_cons_succ]
    refine wpAnyH_take (i := 3) (oi := ({ dst := some 9, op := Op.load 27 (Operand.tmp 8), type := 27, pos := _, after := _, guard := _ } : Oper)) (v := ?_) rfl (by kernel_rfl) (by kernel_rfl) (by kernel_rfl) (fun _ _ _ h => h) (Or.inl ⟨by rfl, ?_⟩) (by assumption) ?_
    rotate_left
    · (intro wz hSw; (try dsimp only at hSw); go_simp; try with_reducible rfl)
    simp only [Act.put, List.setIfInBounds_toArray, List.set_cons_zero, List.set_cons_succ]
    refine wpAnyH_ready (rs := [4, 6]) (by kernel_rfl) (by simp) ?_
    refine AllReadyH.cons (o := ({ dst := some 10, op := Op.call { callee := Callee.value (Operand.func 57), args := #[Operand.tmp 9], argTypes := #[27] }, type := 27, pos := _, after := _, guard := _ } : Oper)) rfl (fun K hK => ?_) (AllReadyH.cons (o := ({ dst := some 3, op := Op.alloc 29, type := 0, pos := _, after := _, guard := _ } : Oper)) rfl (fun K hK => ?_) AllReadyH.nil)
    · go_simp
      go_at_call 57
      refine (cloneV vs a c _ (HV.out.keep b0.out) hvc hva hl1).mono ?_
      rintro e w1 ⟨v, rfl, hO, hb1⟩
      obtain ⟨a5, c5, rfl, -, -⟩ := hO.slice
      have b1 := hide (b0.out.trans (hb1.mono b0.out.size))
      have O1 : Hid (OwV w1 W.heap.size 53 (.slice a5 vs.length c5) vs) := ownsRow_mono hO b0.out.size
      refine hK.out _ _ (HS.out _ b1.out) (fun hH1 => ?_)
      clear hK K hb1 hO
      refine wpAnyH_take (i := 5) (oi := ({ dst := some 11, op := Op.build 29 #[(0, Operand.tmp 7), (1, Operand.tmp 10)], type := 29, pos := _, after := _, guard := _ } : Oper)) (v := ?_) rfl (by kernel_rfl) (by kernel_rfl) (by kernel_rfl) (fun _ _ _ h => h) (Or.inl ⟨by rfl, ?_⟩) (by assumption) ?_
      rotate_left
      · (intro wz hSw; (try dsimp only at hSw); go_simp; try with_reducible rfl)
      simp only [Act.put, List.setIfInBounds_toArray, List.set_cons_zero, List.set_cons_succ]
      refine wpAnyH_ready (rs := [6]) (by kernel_rfl) (by simp) ?_
      refine AllReadyH.cons (o := ({ dst := some 3, op := Op.alloc 29, type := 0, pos := _, after := _, guard := _ } : Oper)) rfl (fun K hK => ?_) AllReadyH.nil
      · go_simp
        have hb2 : Below w1.heap.size w1 (w1.alloc (.cells #[.bool false, .slice none 0 0, .slice none 0 0] 29)) := (Below.refl _ _).alloc (Nat.le_refl _) _
        have b2 := hide (b1.out.trans (hb2.mono b1.out.size))
        have X2 := hide (And.intro (Bs.new w1 false (.slice none 0 0) (.slice none 0 0) 29) (Fs.new w1 false (.slice none 0 0) (.slice none 0 0) 29))
        have NV : Hid (∀ k, Value.ownBlock (.slice a5 vs.length c5) = some k → k ≠ w1.heap.size) := hide (fun k hk => by have := (O1.out.lt k hk).2; omega)
        have O2 := hide (O1.out.keep hb2)
        have NQ : Hid (W.heap.size ≤ w1.heap.size) := hide b1.out.size
        refine hK.out _ _ (HS.out _ b2.out) (fun hH2 => ?_)
        clear hK K hb2
        obtain ⟨w2, hw2⟩ : ∃ z9, z9 = (w1.alloc (.cells #[.bool false, .slice none 0 0, .slice none 0 0] 29)) := ⟨_, rfl⟩
        rw [← hw2] at hH2 X2 b2 O2 ⊢
        clear hw2
        generalize w1.heap.size = q2 at *
        refine wpAnyH_ready (rs := [7]) (by kernel_rfl) (by simp) ?_
        refine AllReadyH.cons (o := ({ dst := none, op := Op.store 29 (Operand.tmp 3) (Operand.tmp 11), type := 0, pos := _, after := _, guard := _ } : Oper)) rfl (fun K hK => ?_) AllReadyH.nil
        · have z0 := X2.out.1.c0
          have z1 := X2.out.1.c1
          have z2 := X2.out.1.c2
          have y0 := X2.out.2.f0
          have y1 := X2.out.2.f1
          have y2 := X2.out.2.f2
          go_simp
          have X3 := hide (And.intro (X2.out.1.put3 r (.slice a5 vs.length c5) (.slice none 0 0)) (X2.out.2.put3 (p := q2) r (.slice a5 vs.length c5) (.slice none 0 0)))
          have b3 := hide (st3_below b2.out q2 NQ.out r (.slice a5 vs.length c5) (.slice none 0 0))
          have O3 := hide (O2.out.of (fun k hk => st3_block w2 q2 r (.slice a5 vs.length c5) (.slice none 0 0) k (NV.out k hk)))
          refine hK.out _ _ (HS.out _ b3.out) (fun hH3 => ?_)
          clear hK K z0 z1 z2 y0 y1 y2
          refine wpAnyH_done (by kernel_rfl) ?_ _
          go_wp2_with fail
          go_meet
          case rel => exact ⟨q2, a5, c5, rfl, NQ.out, ⟨KW.out.1.of (b3.out.block q0 KW.out.1.lt), KW.out.2.1.of (b3.out.block q1 KW.out.2.1.lt), KW.out.2.2.of (b3.out.block q1 KW.out.2.1.lt)⟩, ⟨⟨X3.out.1, X3.out.2, O3.out, OwR.nil _ _, Inn.nil _ _, Nat.lt_succ_self _, NV.out⟩, List.Pairwise.nil⟩, BW.out.trans (b3.out.mono BW.out.size)⟩
    · go_simp
      have hb1 : Below w0.heap.size w0 (w0.alloc (.cells #[.bool false, .slice none 0 0, .slice none 0 0] 29)) := (Below.refl _ _).alloc (Nat.le_refl _) _
      have b1 := hide (b0.out.trans (hb1.mono b0.out.size))
      have X1 := hide (And.intro (Bs.new w0 false (.slice none 0 0) (.slice none 0 0) 29) (Fs.new w0 false (.slice none 0 0) (.slice none 0 0) 29))
      have NQ : Hid (W.heap.size ≤ w0.heap.size) := hide b0.out.size
      refine hK.out _ _ (HS.out _ b1.out) (fun hH1 => ?_)
      clear hK K hb1
      obtain ⟨w1, hw1⟩ : ∃ z9, z9 = (w0.alloc (.cells #[.bool false, .slice none 0 0, .slice none 0 0] 29)) := ⟨_, rfl⟩
      rw [← hw1] at hH1 X1 b1  ⊢
      clear hw1
      generalize w0.heap.size = q2 at *
      refine wpAnyH_ready (rs := [4]) (by kernel_rfl) (by simp) ?_
      refine AllReadyH.cons (o := ({ dst := some 10, op := Op.call { callee := Callee.value (Operand.func 57), args := #[Operand.tmp 9], argTypes := #[27] }, type := 27, pos := _, after := _, guard := _ } : Oper)) rfl (fun K hK => ?_) AllReadyH.nil
      · go_simp
        go_at_call 57
        refine (cloneV vs a c _ (HV.out.keep b1.out) hvc hva hl1).mono ?_
        rintro e w2 ⟨v, rfl, hO, hb2⟩
        obtain ⟨a5, c5, rfl, -, -⟩ := hO.slice
        have b2 := hide (b1.out.trans (hb2.mono b1.out.size))
        have X2 := hide (And.intro (X1.out.1.keep hb2) (X1.out.2.of (hb2.block q2 X1.out.1.lt)))
        have NV : Hid (∀ k, Value.ownBlock (.slice a5 vs.length c5) = some k → k ≠ q2) := hide (fun k hk => by have := (hO.lt k hk).1; have := X1.out.1.lt; omega)
        have O2 : Hid (OwV w2 W.heap.size 53 (.slice a5 vs.length c5) vs) := ownsRow_mono hO b1.out.size
        refine hK.out _ _ (HS.out _ b2.out) (fun hH2 => ?_)
        clear hK K hb2 hO
        refine wpAnyH_take (i := 5) (oi := ({ dst := some 11, op := Op.build 29 #[(0, Operand.tmp 7), (1, Operand.tmp 10)], type := 29, pos := _, after := _, guard := _ } : Oper)) (v := ?_) rfl (by kernel_rfl) (by kernel_rfl) (by kernel_rfl) (fun _ _ _ h => h) (Or.inl ⟨by rfl, ?_⟩) (by assumption) ?_
        rotate_left
        · (intro wz hSw; (try dsimp only at hSw); go_simp; try with_reducible rfl)
        simp only [Act.put, List.setIfInBounds_toArray, List.set_cons_zero, List.set_cons_succ]
        refine wpAnyH_ready (rs := [7]) (by kernel_rfl) (by simp) ?_
        refine AllReadyH.cons (o := ({ dst := none, op := Op.store 29 (Operand.tmp 3) (Operand.tmp 11), type := 0, pos := _, after := _, guard := _ } : Oper)) rfl (fun K hK => ?_) AllReadyH.nil
        · have z0 := X2.out.1.c0
          have z1 := X2.out.1.c1
          have z2 := X2.out.1.c2
          have y0 := X2.out.2.f0
          have y1 := X2.out.2.f1
          have y2 := X2.out.2.f2
          go_simp
          have X3 := hide (And.intro (X2.out.1.put3 r (.slice a5 vs.length c5) (.slice none 0 0)) (X2.out.2.put3 (p := q2) r (.slice a5 vs.length c5) (.slice none 0 0)))
          have b3 := hide (st3_below b2.out q2 NQ.out r (.slice a5 vs.length c5) (.slice none 0 0))
          have O3 := hide (O2.out.of (fun k hk => st3_block w2 q2 r (.slice a5 vs.length c5) (.slice none 0 0) k (NV.out k hk)))
          refine hK.out _ _ (HS.out _ b3.out) (fun hH3 => ?_)
          clear hK K z0 z1 z2 y0 y1 y2
          refine wpAnyH_done (by kernel_rfl) ?_ _
          go_wp2_with fail
          go_meet
          case rel => exact ⟨q2, a5, c5, rfl, NQ.out, ⟨KW.out.1.of (b3.out.block q0 KW.out.1.lt), KW.out.2.1.of (b3.out.block q1 KW.out.2.1.lt), KW.out.2.2.of (b3.out.block q1 KW.out.2.1.lt)⟩, ⟨⟨X3.out.1, X3.out.2, O3.out, OwR.nil _ _, Inn.nil _ _, Nat.lt_succ_self _, NV.out⟩, List.Pairwise.nil⟩, BW.out.trans (b3.out.mono BW.out.size)⟩
  case rest =>
    obtain ⟨q2, a5, c5, rfl, hq2, h4⟩ := hcut
    rw [← hN1.out] at h4 hq2
    have FQ : Hid (q0 < q2 ∧ q1 < q2) := hide (by have := HQ.out; have := HN1.out; omega)
    have FQ2 : Hid (w.heap.size ≤ q2) := hide (by have := HQ.out; have := HN1.out; omega)
    clear HS HV KW BW hN1
    have e2 := h4.out.1.1.c2
    go_upto_region 3 with fail
    clear e2
    go_wp2_with fail
    go_loopw [5, 15] (fun s5 s15 wr => ∃ (k : Nat) (sa : Value) (es : List Value), s15 = .int .i64 k ∧ k ≤ ss.length ∧ Hid ((Bs wr q0 r (.slice a vs.length c) (.slice b ss.length d) ∧ Bs wr q1 false (.slice none 0 0) (.slice none 0 0) ∧ Fs wr q1) ∧ Lo3 wr N1 (q2 + 1) q2 53 ⟨r, vs, ss.take k⟩ (.slice a5 vs.length c5) sa es ∧ Below w.heap.size w wr)) (fun _ s15 _ => ss.length - (intOf s15).toNat)
    case atStart => exact ⟨0, _, _, rfl, Nat.zero_le _, h4.out⟩
    case round =>
      obtain ⟨k, sa, es, rfl, hk, h5⟩ := hrel
      clear h4
      by_cases hks : k < ss.length
      · have hks2 : (k : Int) < ss.length := by omega
        obtain ⟨b2, o2, l, ai, ci, hX2, rfl, hc1, hc2, hlc, hln⟩ := HRw.out.at hks
        have HX := hide hX2
        have hll := HL3.out k l hX2
        have g2 := (h5.out.2.2.cell (p := ⟨b2, o2 + k, none⟩) (World.block_lt_of_cell? w _ hc1)).trans hc1
        have HI0 := hide hc2
        clear hX2 hc1 hc2
        go_upto_region 5 with fail
        go_name_world W5 hW5
        rw [hW5] at h5
        clear hW5 g2
        have KW2 := hide h5.out.1
        have LW := hide h5.out.2.1
        have BW2 := hide h5.out.2.2
        have HI : Hid (∀ w', Below q2 W5 w' → Ri w' ai l) := hide (fun w' h => HI0.out.keep' (BW2.out.trans (h.mono FQ2.out)))
        clear h5
        refine wp_region_held_drew (S := fun w' => True) (by kernel_rfl) trivial (fun hH0 => ?_)
        obtain ⟨w0, hw0⟩ : ∃ w0, w0 = W5.drew := ⟨_, rfl⟩
        (try rw [← hw0] at hH0)
        rw [← hw0]
        have L0 : Hid (Lo3 w0 N1 (q2 + 1) q2 53 ⟨r, vs, ss.take k⟩ (.slice a5 vs.length c5) sa es) := hw0 ▸ hide (LW.out.of (Below.refl _ _).drew)
        have b0 : Hid (Below q2 W5 w0) := hw0 ▸ hide (Below.refl _ _).drew
        clear hw0
        refine wpAnyH_take (i := 0) (oi := ({ dst := some 19, op := Op.fieldAddr 29 (Operand.tmp 3) 2, type := 0, pos := _, after := _, guard := _ } : Oper)) (v := ?_) rfl (by kernel_rfl) (by kernel_rfl) (by kernel_rfl) (fun _ _ _ h => h) (Or.inl ⟨by rfl, ?_⟩) (by assumption) ?_
        rotate_left
        · (intro wz hSw; (try dsimp only at hSw); go_simp; try with_reducible rfl)
        simp only [Act.put, List.setIfInBounds_toArray, List.set_cons_zero, List.set_cons_succ]
        refine wpAnyH_take (i := 2) (oi := ({ dst := some 21, op := Op.move (Operand.tmp 5), type := 38, pos := _, after := _, guard := _ } : Oper)) (v := ?_) rfl (by kernel_rfl) (by kernel_rfl) (by kernel_rfl) (fun _ _ _ h => h) (Or.inl ⟨by rfl, ?_⟩) (by assumption) ?_
        rotate_left
        · (intro wz hSw; (try dsimp only at hSw); go_simp; try with_reducible rfl)
        simp only [Act.put, List.setIfInBounds_toArray, List.set_cons_zero, List.set_cons_succ]
        refine wpAnyH_ready (rs := [1, 3]) (by kernel_rfl) (by simp) ?_
        refine AllReadyH.cons (o := ({ dst := some 20, op := Op.load 23 (Operand.tmp 19), type := 23, pos := _, after := _, guard := _ } : Oper)) rfl (fun K hK => ?_) (AllReadyH.cons (o := ({ dst := some 22, op := Op.call { callee := Callee.value (Operand.func 58), args := #[Operand.tmp 21], argTypes := #[38] }, type := 38, pos := _, after := _, guard := _ } : Oper)) rfl (fun K hK => ?_) AllReadyH.nil)
        · have zc := L0.out.bx.c2
          go_simp
          refine hK.out _ _ hH0 (fun _ => ?_)
          clear hK K zc
          refine wpAnyH_ready (rs := [3]) (by kernel_rfl) (by simp) ?_
          refine AllReadyH.cons (o := ({ dst := some 22, op := Op.call { callee := Callee.value (Operand.func 58), args := #[Operand.tmp 21], argTypes := #[38] }, type := 38, pos := _, after := _, guard := _ } : Oper)) rfl (fun K hK => ?_) AllReadyH.nil
          · go_simp
            go_at_call 58
            refine (cloneI l ai ci _ (HI.out _ b0.out) hlc hln hll).mono ?_
            rintro e w1 ⟨v9, rfl, hS⟩
            obtain ⟨ax, cx, rfl⟩ := hS.slice
            have hb1 := hS.bel
            have L1 := hide (L0.out.of hb1)
            have b1 := hide (b0.out.trans (hb1.mono (Nat.le_of_lt L0.out.bx.lt)))
            have DD := hide (L0.out.inn.fresh hS)
            have I1 := hide (hS.owi (Nat.succ_le_of_lt L0.out.bx.lt))
            refine hK.out _ _ trivial (fun hH1 => ?_)
            clear hK K hb1 hS
            refine wpAnyH_ready (rs := [4]) (by kernel_rfl) (by simp) ?_
            refine AllReadyH.cons (o := ({ dst := some 23, op := Op.buildSlice 23 1 #[(0, Operand.tmp 22)], type := 23, pos := _, after := _, guard := _ } : Oper)) rfl (fun K hK => ?_) AllReadyH.nil
            · go_simp
              have hb2 : Below w1.heap.size w1 (w1.alloc (.cells #[(.slice ax l.length cx)] 38)) := (Below.refl _ _).alloc (Nat.le_refl _) _
              have L2 := hide (L1.out.of hb2)
              have b2 := hide (b1.out.trans (hb2.mono (Nat.le_of_lt L1.out.bx.lt)))
              have I2 := hide (I1.out.keep hb2)
              have Y2 := hide (C1.new w1 (.slice ax l.length cx) 38)
              refine hK.out _ _ trivial (fun hH2 => ?_)
              clear hK K hb2
              obtain ⟨w2, hw2⟩ : ∃ z9, z9 = (w1.alloc (.cells #[(.slice ax l.length cx)] 38)) := ⟨_, rfl⟩
              rw [← hw2] at L2 b2 Y2 I2 ⊢
              clear hw2
              generalize w1.heap.size = nc at *
              refine wpAnyH_ready (rs := [5]) (by kernel_rfl) (by simp) ?_
              refine AllReadyH.cons (o := ({ dst := some 24, op := Op.call { callee := Callee.builtin Builtin.append, args := #[Operand.tmp 20, Operand.tmp 23], argTypes := #[23, 23] }, type := 23, pos := _, after := _, guard := _ } : Oper)) rfl (fun K hK => ?_) AllReadyH.nil
              · refine wp_appR' w2 (q2 + 1) (.tmp 20) (.tmp 23) rfl _ es (.slice ax l.length cx) nc rfl L2.out.os Y2.out.c rfl rfl ?_ (Nat.succ_le_of_lt L2.out.bx.lt) ?_
                · (have t1 := L2.out.inn.1; dsimp only at t1; rw [List.length_take] at t1; omega)
                intro a3 c3 w3 hO3 hg3
                have b3 := hide (L2.out.belR b2.out hg3)
                refine hK.out _ _ trivial (fun hH3 => ?_)
                clear hK K
                replace hO3 := hide hO3
                replace hg3 := hide hg3
                refine wpAnyH_take (i := 6) (oi := ({ dst := some 25, op := Op.fieldAddr 29 (Operand.tmp 3) 2, type := 0, pos := _, after := _, guard := _ } : Oper)) (v := ?_) rfl (by kernel_rfl) (by kernel_rfl) (by kernel_rfl) (fun _ _ _ h => h) (Or.inl ⟨by rfl, ?_⟩) (by assumption) ?_
                rotate_left
                · (intro wz hSw; (try dsimp only at hSw); go_simp; try with_reducible rfl)
                simp only [Act.put, List.setIfInBounds_toArray, List.set_cons_zero, List.set_cons_succ]
                refine wpAnyH_ready (rs := [7]) (by kernel_rfl) (by simp) ?_
                refine AllReadyH.cons (o := ({ dst := none, op := Op.store 23 (Operand.tmp 25) (Operand.tmp 24), type := 0, pos := _, after := _, guard := _ } : Oper)) rfl (fun K hK => ?_) AllReadyH.nil
                · have zb := (L2.out.boxR hg3.out).1
                  have zf := (L2.out.boxR hg3.out).2
                  have z0 := zb.c0
                  have z1 := zb.c1
                  have z2 := zb.c2
                  have y0 := zf.f0
                  have y1 := zf.f1
                  have y2 := zf.f2
                  clear zb zf
                  go_simp
                  have L4 := hide (L2.out.appR (by decide) I2.out DD.out hO3.out hg3.out)
                  have b4 := hide (b3.out.setCell (p := ⟨q2, 2, none⟩) (Nat.le_refl _) (.slice a3 (es.length + 1) c3))
                  refine hK.out _ _ trivial (fun hH4 => ?_)
                  clear hK K z0 z1 z2 y0 y1 y2
                  obtain ⟨w4, hw4⟩ : ∃ z9, z9 = w3.setCell ⟨q2, 2, none⟩ (.slice a3 (es.length + 1) c3) := ⟨_, rfl⟩
                  rw [← hw4] at L4 b4  ⊢
                  clear hw4
                  refine wpAnyH_done (by kernel_rfl) ?_ _
                  go_wp2_with fail
                  exact ⟨⟨k + 1, _, _, by simp, by omega, ⟨⟨KW2.out.1.of (b4.out.block q0 FQ.out.1), KW2.out.2.1.of (b4.out.block q1 FQ.out.2), KW2.out.2.2.of (b4.out.block q1 FQ.out.2)⟩, by rw [take_more HX.out]; exact L4.out, BW2.out.trans (b4.out.mono FQ2.out)⟩⟩, by simp [intOf]; omega⟩
        · go_simp
          go_at_call 58
          refine (cloneI l ai ci _ (HI.out _ b0.out) hlc hln hll).mono ?_
          rintro e w1 ⟨v9, rfl, hS⟩
          obtain ⟨ax, cx, rfl⟩ := hS.slice
          have hb1 := hS.bel
          have L1 := hide (L0.out.of hb1)
          have b1 := hide (b0.out.trans (hb1.mono (Nat.le_of_lt L0.out.bx.lt)))
          have DD := hide (L0.out.inn.fresh hS)
          have I1 := hide (hS.owi (Nat.succ_le_of_lt L0.out.bx.lt))
          refine hK.out _ _ trivial (fun hH1 => ?_)
          clear hK K hb1 hS
          refine wpAnyH_ready (rs := [1, 4]) (by kernel_rfl) (by simp) ?_
          refine AllReadyH.cons (o := ({ dst := some 20, op := Op.load 23 (Operand.tmp 19), type := 23, pos := _, after := _, guard := _ } : Oper)) rfl (fun K hK => ?_) (AllReadyH.cons (o := ({ dst := some 23, op := Op.buildSlice 23 1 #[(0, Operand.tmp 22)], type := 23, pos := _, after := _, guard := _ } : Oper)) rfl (fun K hK => ?_) AllReadyH.nil)
          · have zc := L1.out.bx.c2
            go_simp
            refine hK.out _ _ hH1 (fun _ => ?_)
            clear hK K zc
            refine wpAnyH_ready (rs := [4]) (by kernel_rfl) (by simp) ?_
            refine AllReadyH.cons (o := ({ dst := some 23, op := Op.buildSlice 23 1 #[(0, Operand.tmp 22)], type := 23, pos := _, after := _, guard := _ } : Oper)) rfl (fun K hK => ?_) AllReadyH.nil
            · go_simp
              have hb2 : Below w1.heap.size w1 (w1.alloc (.cells #[(.slice ax l.length cx)] 38)) := (Below.refl _ _).alloc (Nat.le_refl _) _
              have L2 := hide (L1.out.of hb2)
              have b2 := hide (b1.out.trans (hb2.mono (Nat.le_of_lt L1.out.bx.lt)))
              have I2 := hide (I1.out.keep hb2)
              have Y2 := hide (C1.new w1 (.slice ax l.length cx) 38)
              refine hK.out _ _ trivial (fun hH2 => ?_)
              clear hK K hb2
              obtain ⟨w2, hw2⟩ : ∃ z9, z9 = (w1.alloc (.cells #[(.slice ax l.length cx)] 38)) := ⟨_, rfl⟩
              rw [← hw2] at L2 b2 Y2 I2 ⊢
              clear hw2
              generalize w1.heap.size = nc at *
              refine wpAnyH_ready (rs := [5]) (by kernel_rfl) (by simp) ?_
              refine AllReadyH.cons (o := ({ dst := some 24, op := Op.call { callee := Callee.builtin Builtin.append, args := #[Operand.tmp 20, Operand.tmp 23], argTypes := #[23, 23] }, type := 23, pos := _, after := _, guard := _ } : Oper)) rfl (fun K hK => ?_) AllReadyH.nil
              · refine wp_appR' w2 (q2 + 1) (.tmp 20) (.tmp 23) rfl _ es (.slice ax l.length cx) nc rfl L2.out.os Y2.out.c rfl rfl ?_ (Nat.succ_le_of_lt L2.out.bx.lt) ?_
                · (have t1 := L2.out.inn.1; dsimp only at t1; rw [List.length_take] at t1; omega)
                intro a3 c3 w3 hO3 hg3
                have b3 := hide (L2.out.belR b2.out hg3)
                refine hK.out _ _ trivial (fun hH3 => ?_)
                clear hK K
                replace hO3 := hide hO3
                replace hg3 := hide hg3
                refine wpAnyH_take (i := 6) (oi := ({ dst := some 25, op := Op.fieldAddr 29 (Operand.tmp 3) 2, type := 0, pos := _, after := _, guard := _ } : Oper)) (v := ?_) rfl (by kernel_rfl) (by kernel_rfl) (by kernel_rfl) (fun _ _ _ h => h) (Or.inl ⟨by rfl, ?_⟩) (by assumption) ?_
                rotate_left
                · (intro wz hSw; (try dsimp only at hSw); go_simp; try with_reducible rfl)
                simp only [Act.put, List.setIfInBounds_toArray, List.set_cons_zero, List.set_cons_succ]
                refine wpAnyH_ready (rs := [7]) (by kernel_rfl) (by simp) ?_
                refine AllReadyH.cons (o := ({ dst := none, op := Op.store 23 (Operand.tmp 25) (Operand.tmp 24), type := 0, pos := _, after := _, guard := _ } : Oper)) rfl (fun K hK => ?_) AllReadyH.nil
                · have zb := (L2.out.boxR hg3.out).1
                  have zf := (L2.out.boxR hg3.out).2
                  have z0 := zb.c0
                  have z1 := zb.c1
                  have z2 := zb.c2
                  have y0 := zf.f0
                  have y1 := zf.f1
                  have y2 := zf.f2
                  clear zb zf
                  go_simp
                  have L4 := hide (L2.out.appR (by decide) I2.out DD.out hO3.out hg3.out)
                  have b4 := hide (b3.out.setCell (p := ⟨q2, 2, none⟩) (Nat.le_refl _) (.slice a3 (es.length + 1) c3))
                  refine hK.out _ _ trivial (fun hH4 => ?_)
                  clear hK K z0 z1 z2 y0 y1 y2
                  obtain ⟨w4, hw4⟩ : ∃ z9, z9 = w3.setCell ⟨q2, 2, none⟩ (.slice a3 (es.length + 1) c3) := ⟨_, rfl⟩
                  rw [← hw4] at L4 b4  ⊢
                  clear hw4
                  refine wpAnyH_done (by kernel_rfl) ?_ _
                  go_wp2_with fail
                  exact ⟨⟨k + 1, _, _, by simp, by omega, ⟨⟨KW2.out.1.of (b4.out.block q0 FQ.out.1), KW2.out.2.1.of (b4.out.block q1 FQ.out.2), KW2.out.2.2.of (b4.out.block q1 FQ.out.2)⟩, by rw [take_more HX.out]; exact L4.out, BW2.out.trans (b4.out.mono FQ2.out)⟩⟩, by simp [intOf]; omega⟩
          · go_simp
            have hb2 : Below w1.heap.size w1 (w1.alloc (.cells #[(.slice ax l.length cx)] 38)) := (Below.refl _ _).alloc (Nat.le_refl _) _
            have L2 := hide (L1.out.of hb2)
            have b2 := hide (b1.out.trans (hb2.mono (Nat.le_of_lt L1.out.bx.lt)))
            have I2 := hide (I1.out.keep hb2)
            have Y2 := hide (C1.new w1 (.slice ax l.length cx) 38)
            refine hK.out _ _ trivial (fun hH2 => ?_)
            clear hK K hb2
            obtain ⟨w2, hw2⟩ : ∃ z9, z9 = (w1.alloc (.cells #[(.slice ax l.length cx)] 38)) := ⟨_, rfl⟩
            rw [← hw2] at L2 b2 Y2 I2 ⊢
            clear hw2
            generalize w1.heap.size = nc at *
            refine wpAnyH_ready (rs := [1]) (by kernel_rfl) (by simp) ?_
            refine AllReadyH.cons (o := ({ dst := some 20, op := Op.load 23 (Operand.tmp 19), type := 23, pos := _, after := _, guard := _ } : Oper)) rfl (fun K hK => ?_) AllReadyH.nil
            · have zc := L2.out.bx.c2
              go_simp
              refine hK.out _ _ hH2 (fun _ => ?_)
              clear hK K zc
              refine wpAnyH_ready (rs := [5]) (by kernel_rfl) (by simp) ?_
              refine AllReadyH.cons (o := ({ dst := some 24, op := Op.call { callee := Callee.builtin Builtin.append, args := #[Operand.tmp 20, Operand.tmp 23], argTypes := #[23, 23] }, type := 23, pos := _, after := _, guard := _ } : Oper)) rfl (fun K hK => ?_) AllReadyH.nil
              · refine wp_appR' w2 (q2 + 1) (.tmp 20) (.tmp 23) rfl _ es (.slice ax l.length cx) nc rfl L2.out.os Y2.out.c rfl rfl ?_ (Nat.succ_le_of_lt L2.out.bx.lt) ?_
                · (have t1 := L2.out.inn.1; dsimp only at t1; rw [List.length_take] at t1; omega)
                intro a3 c3 w3 hO3 hg3
                have b3 := hide (L2.out.belR b2.out hg3)
                refine hK.out _ _ trivial (fun hH3 => ?_)
                clear hK K
                replace hO3 := hide hO3
                replace hg3 := hide hg3
                refine wpAnyH_take (i := 6) (oi := ({ dst := some 25, op := Op.fieldAddr 29 (Operand.tmp 3) 2, type := 0, pos := _, after := _, guard := _ } : Oper)) (v := ?_) rfl (by kernel_rfl) (by kernel_rfl) (by kernel_rfl) (fun _ _ _ h => h) (Or.inl ⟨by rfl, ?_⟩) (by assumption) ?_
                rotate_left
                · (intro wz hSw; (try dsimp only at hSw); go_simp; try with_reducible rfl)
                simp only [Act.put, List.setIfInBounds_toArray, List.set_cons_zero, List.set_cons_succ]
                refine wpAnyH_ready (rs := [7]) (by kernel_rfl) (by simp) ?_
                refine AllReadyH.cons (o := ({ dst := none, op := Op.store 23 (Operand.tmp 25) (Operand.tmp 24), type := 0, pos := _, after := _, guard := _ } : Oper)) rfl (fun K hK => ?_) AllReadyH.nil
                · have zb := (L2.out.boxR hg3.out).1
                  have zf := (L2.out.boxR hg3.out).2
                  have z0 := zb.c0
                  have z1 := zb.c1
                  have z2 := zb.c2
                  have y0 := zf.f0
                  have y1 := zf.f1
                  have y2 := zf.f2
                  clear zb zf
                  go_simp
                  have L4 := hide (L2.out.appR (by decide) I2.out DD.out hO3.out hg3.out)
                  have b4 := hide (b3.out.setCell (p := ⟨q2, 2, none⟩) (Nat.le_refl _) (.slice a3 (es.length + 1) c3))
                  refine hK.out _ _ trivial (fun hH4 => ?_)
                  clear hK K z0 z1 z2 y0 y1 y2
                  obtain ⟨w4, hw4⟩ : ∃ z9, z9 = w3.setCell ⟨q2, 2, none⟩ (.slice a3 (es.length + 1) c3) := ⟨_, rfl⟩
                  rw [← hw4] at L4 b4  ⊢
                  clear hw4
                  refine wpAnyH_done (by kernel_rfl) ?_ _
                  go_wp2_with fail
                  exact ⟨⟨k + 1, _, _, by simp, by omega, ⟨⟨KW2.out.1.of (b4.out.block q0 FQ.out.1), KW2.out.2.1.of (b4.out.block q1 FQ.out.2), KW2.out.2.2.of (b4.out.block q1 FQ.out.2)⟩, by rw [take_more HX.out]; exact L4.out, BW2.out.trans (b4.out.mono FQ2.out)⟩⟩, by simp [intOf]; omega⟩
      · have hke : k = ss.length := by omega
        subst hke
        have h6 := h5.out
        rw [List.take_of_length_le (Nat.le_refl _)] at h6
        have h4 := hide h6
        clear h5 h6
        obtain ⟨a8, c8, rfl, -, -⟩ := h4.out.2.1.os.slice
        have e0 := h4.out.2.1.bx.c0
        have e1 := h4.out.2.1.bx.c1
        have e2 := h4.out.2.1.bx.c2
        have g0 := h4.out.1.2.1.c0
        have g1 := h4.out.1.2.1.c1
        have g2 := h4.out.1.2.1.c2
        have f0 := h4.out.1.2.2.f0
        have f1 := h4.out.1.2.2.f1
        have f2 := h4.out.1.2.2.f2
        have G1 := hide (And.intro (h4.out.1.2.1.put3 r (.slice a5 vs.length c5) (.slice a8 es.length c8)) (And.intro ((h4.out.2.1.far3 q1 r (.slice a5 vs.length c5) (.slice a8 es.length c8) (Nat.lt_succ_of_lt FQ.out.2) HN1.out (Nat.ne_of_lt FQ.out.2)).own (N := w.heap.size) (by have := HQ.out; have := HN1.out; omega) (by have := FQ2.out; omega)) (st3_below h4.out.2.2 q1 HQ.out.1 r (.slice a5 vs.length c5) (.slice a8 es.length c8))))
        clear h4
        go_wp2_with fail
        have y0 := G1.out.1.c0
        have y1 := G1.out.1.c1
        have y2 := G1.out.1.c2
        clear e0 e1 e2 g0 g1 g2 f0 f1 f2
        exact bodyPost_ret (by simp [results, Try.results22, go_sem, y0, y1, y2]; try rfl) rfl ⟨_, rfl, G1.out.2.1, G1.out.2.2⟩
end Go.Proofs.Ytmhicllhjiglkaa
namespace Go.Proofs.Ytmhicllhjiglkaa
open Go.RowKit
/-- a State, all of the call's own -/
structure Lw (w : World) (B : Nat) (s : S) (va sa : Value) (es : List Value) : Prop where
  ov : OwV w B 48 va s.vs
  os : OwR w B sa es
  inn : Inn w B es s.ss
theorem Lw.nil (w : World) (B : Nat) : Lw w B ⟨false, [], []⟩ (.slice none 0 0) (.slice none 0 0) [] := ⟨OwV.nil _ _ _, OwR.nil _ _, Inn.nil _ _⟩
theorem Lw.mono {w : World} {B B' : Nat} {s : S} {va sa : Value} {es : List Value} (h : Lw w B s va sa es) (hB : B' ≤ B) : Lw w B' s va sa es :=
  ⟨ownsRow_mono h.ov hB, ownsRow_mono h.os hB, ⟨h.inn.1, fun m l hm => by obtain ⟨e, h1, h2⟩ := h.inn.2 m l hm; exact ⟨e, h1, ownsRow_mono h2 hB⟩⟩⟩
theorem Lw.fin {w : World} {B q q1 : Nat} {s : S} {va sa : Value} {es : List Value} (h : Lo w B q 48 s va sa es) (hp : q1 < B) : Lw (st3 w q1 s.r va sa) B s va sa es := by
  have e : ∀ k, k ≠ q1 → (st3 w q1 s.r va sa).heap[k]? = w.heap[k]? := fun k hk => st3_block w q1 s.r va sa k hk
  refine ⟨h.ov.of (fun k hk => e k (by have := (h.ov.lt k hk).1; omega)), h.os.of (fun k hk => e k (by have := (h.os.lt k hk).1; omega)), ⟨h.inn.1, fun m l hm => ?_⟩⟩
  obtain ⟨e2, h1, h2⟩ := h.inn.2 m l hm
  exact ⟨e2, h1, h2.of (fun k hk => e k (by have := (h2.lt k hk).1; omega))⟩
end Go.Proofs.Ytmhicllhjiglkaa
namespace Go.Proofs.Ytmhicllhjiglkaa
open Go.RowKit
/-- it is a State's box -/
def Tg (w : World) (q : Nat) : Prop := ∃ c f, w.heap[q]? = some (.cells c 25 f)
theorem Tg.of {w w' : World} {q : Nat} (h : Tg w q) (e : w'.heap[q]? = w.heap[q]?) : Tg w' q := by
  obtain ⟨c, f, h⟩ := h
  exact ⟨c, f, e.trans h⟩
theorem Tg.set {w : World} {q : Nat} (h : Tg w q) (o : Nat) (v : Value) : Tg (w.setCell ⟨q, o, none⟩ v) q := by
  obtain ⟨c, f, h⟩ := h
  exact ⟨c.setIfInBounds o v, f, by simp [World.setCell, Array.getElem?_modify, h]⟩
theorem Tg.new (w : World) (vs : Array Value) : Tg (w.alloc (.cells vs 25)) w.heap.size := ⟨vs, _, heap_alloc_new w _⟩
theorem tg_ne {w : World} {B e s n q : Nat} {v : Value} {x : List Value} (h : w.ownsRow B e s v n x) (ht : Tg w q) (he : e ≠ 25) : some q ≠ v.ownBlock := by
  intro hk
  obtain ⟨c, f, ht⟩ := ht
  rcases h.2 with ⟨rfl, _⟩ | ⟨g, cap, cur, rfl, _, hg, _⟩
  · cases hk
  · obtain rfl : q = g := by simpa [Value.ownBlock] using hk
    rw [hg] at ht
    exact he (Obj.cells.inj (Option.some.inj ht)).2.1
/-- a State in a box, its rows the call's own -/
structure Lq (w : World) (B q : Nat) (s : S) (va sa : Value) (es : List Value) : Prop where
  bx : Bs w q s.r va sa
  fz : Fs w q
  tg : Tg w q
  ov : OwV w B 48 va s.vs
  os : OwR w B sa es
  inn : Inn w B es s.ss
  qB : B ≤ q
theorem Lq.Bl {w : World} {B q : Nat} {s : S} {va sa : Value} {es : List Value} (h : Lq w B q s va sa es) : B ≤ w.heap.size := Nat.le_trans h.qB (Nat.le_of_lt h.bx.lt)
theorem Lw.of {w w' : World} {B : Nat} {s : S} {va sa : Value} {es : List Value} (h : Lw w B s va sa es) (hb : Below w.heap.size w w') : Lw w' B s va sa es :=
  ⟨h.ov.of (fun k hk => hb.block k (h.ov.lt k hk).2), h.os.of (fun k hk => hb.block k (h.os.lt k hk).2), ⟨h.inn.1, fun m l hm => by
    obtain ⟨e, h1, h2⟩ := h.inn.2 m l hm
    exact ⟨e, h1, h2.of (fun k hk => hb.block k (h2.lt k hk).2)⟩⟩⟩
theorem Lq.of {w w' : World} {B q : Nat} {s : S} {va sa : Value} {es : List Value} (h : Lq w B q s va sa es) (hb : Below w.heap.size w w') : Lq w' B q s va sa es :=
  have t := (Lw.mk h.ov h.os h.inn).of hb
  ⟨h.bx.keep hb, h.fz.of (hb.block q h.bx.lt), h.tg.of (hb.block q h.bx.lt), t.ov, t.os, t.inn, h.qB⟩
theorem Lq.appV {w w' : World} {B q : Nat} {s : S} {va sa va' : Value} {es : List Value} {y : R} (h : Lq w B q s va sa es) (ho : OwV w' B 48 va' (s.vs ++ [y])) (hg : w.grownBy w' va.ownBlock) : Lq (w'.setCell ⟨q, 1, none⟩ va') B q ⟨s.r, s.vs ++ [y], s.ss⟩ va' sa es := by
  have q1 : w'.heap[q]? = w.heap[q]? := hg.block q h.bx.lt (tg_ne h.ov h.tg (by decide))
  have t1 := h.tg.of q1
  have far : ∀ k, k ≠ q → (w'.setCell ⟨q, 1, none⟩ va').heap[k]? = w'.heap[k]? := fun k hk => set_block w' q 1 va' k hk
  refine ⟨(h.bx.of q1).put1 va', (h.fz.of q1).put _ _, t1.set _ _, ho.of (fun k hk => far k (fun e => tg_ne ho t1 (by decide) (e ▸ hk.symm))), h.os.of (fun k hk => ?_), ⟨h.inn.1, fun m l hm => ?_⟩, h.qB⟩
  · exact (far k (fun e => tg_ne h.os h.tg (by decide) (e ▸ hk.symm))).trans (hg.block k (h.os.lt k hk).2 (own_ne h.os h.ov (by decide) k hk))
  · obtain ⟨e, h1, h2⟩ := h.inn.2 m l hm
    exact ⟨e, h1, h2.of (fun k hk => (far k (fun e => tg_ne h2 h.tg (by decide) (e ▸ hk.symm))).trans (hg.block k (h2.lt k hk).2 (own_ne h2 h.ov (by decide) k hk)))⟩
theorem Lq.appR {w w' : World} {B q : Nat} {s : S} {va sa sa' e : Value} {es : List Value} {l : List Int} (h : Lq w B q s va sa es) (he : OwI w B e l) (ho : OwR w' B sa' (es ++ [e])) (hg : w.grownBy w' sa.ownBlock) : Lq (w'.setCell ⟨q, 2, none⟩ sa') B q ⟨s.r, s.vs, s.ss ++ [l]⟩ va sa' (es ++ [e]) := by
  have q1 : w'.heap[q]? = w.heap[q]? := hg.block q h.bx.lt (tg_ne h.os h.tg (by decide))
  have t1 := h.tg.of q1
  have far : ∀ k, k ≠ q → (w'.setCell ⟨q, 2, none⟩ sa').heap[k]? = w'.heap[k]? := fun k hk => set_block w' q 2 sa' k hk
  have inn2 : Inn w B (es ++ [e]) (s.ss ++ [l]) := h.inn.app he
  refine ⟨(h.bx.of q1).put2 sa', (h.fz.of q1).put _ _, t1.set _ _, h.ov.of (fun k hk => ?_), ho.of (fun k hk => far k (fun e => tg_ne ho t1 (by decide) (e ▸ hk.symm))), ⟨inn2.1, fun m l2 hm => ?_⟩, h.qB⟩
  · exact (far k (fun e => tg_ne h.ov h.tg (by decide) (e ▸ hk.symm))).trans (hg.block k (h.ov.lt k hk).2 (own_ne h.ov h.os (by decide) k hk))
  · obtain ⟨e2, h1, h2⟩ := inn2.2 m l2 hm
    exact ⟨e2, h1, h2.of (fun k hk => (far k (fun e => tg_ne h2 h.tg (by decide) (e ▸ hk.symm))).trans (hg.block k (h2.lt k hk).2 (own_ne h2 h.os (by decide) k hk)))⟩
theorem Lq.boxV {w w' : World} {B q : Nat} {s : S} {va sa : Value} {es : List Value} (h : Lq w B q s va sa es) (hg : w.grownBy w' va.ownBlock) : Bs w' q s.r va sa ∧ Fs w' q :=
  have q1 : w'.heap[q]? = w.heap[q]? := hg.block q h.bx.lt (tg_ne h.ov h.tg (by decide))
  ⟨h.bx.of q1, h.fz.of q1⟩
theorem Lq.boxR {w w' : World} {B q : Nat} {s : S} {va sa : Value} {es : List Value} (h : Lq w B q s va sa es) (hg : w.grownBy w' sa.ownBlock) : Bs w' q s.r va sa ∧ Fs w' q :=
  have q1 : w'.heap[q]? = w.heap[q]? := hg.block q h.bx.lt (tg_ne h.os h.tg (by decide))
  ⟨h.bx.of q1, h.fz.of q1⟩
theorem Lq.belV {W w w' : World} {B q : Nat} {s : S} {va sa : Value} {es : List Value} (h : Lq w B q s va sa es) (hb : Below B W w) (hg : w.grownBy w' va.ownBlock) : Below B W w' :=
  hb.grown hg h.Bl (fun k hk => (h.ov.lt k hk).1)
theorem Lq.belR {W w w' : World} {B q : Nat} {s : S} {va sa : Value} {es : List Value} (h : Lq w B q s va sa es) (hb : Below B W w) (hg : w.grownBy w' sa.ownBlock) : Below B W w' :=
  hb.grown hg h.Bl (fun k hk => (h.os.lt k hk).1)
theorem Lq.rs {w : World} {B q : Nat} {s : S} {va sa : Value} {es : List Value} (h : Lq w B q s va sa es) : Rs w (.agg #[.bool s.r, va, sa]) s := by
  obtain ⟨a, c, rfl, h1, h2⟩ := h.ov.slice
  obtain ⟨b, d, e, h3, h4⟩ := h.os.slice
  have ho := h.os
  have hn := h.inn
  rw [hn.1] at e h3
  subst e
  exact ⟨a, c, b, d, rfl, h.ov.rv, Inn.rr ho hn, h1, h3, h2, h4⟩
end Go.Proofs.Ytmhicllhjiglkaa
