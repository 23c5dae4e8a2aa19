import Derived.Test.YtpegiljajlljkaaTo
import Derived.BigQuiet
import Derived.Deep.QuietTactic
import Derived.Deep.DeepCutAuto
namespace Go.Proofs.Ytpegiljajlljkaa
open Go.RowKit
/-- new blocks alone, one after another -/
def grow (w : World) (l : List Obj) : World := l.foldl World.alloc w
theorem grow_size (l : List Obj) : ∀ w : World, (grow w l).heap.size = w.heap.size + l.length := by
  induction l with
  | nil => intro w; rfl
  | cons o l ih => intro w; have := ih (w.alloc o); simp only [grow, List.foldl_cons, List.length_cons] at this ⊢; rw [this]; simp; omega
theorem grow_bel (l : List Obj) : ∀ w : World, Below w.heap.size w (grow w l) := by
  induction l with
  | nil => intro w; exact Below.refl _ _
  | cons o l ih =>
    intro w
    have h1 : Below w.heap.size w (w.alloc o) := (Below.refl _ _).alloc (Nat.le_refl _) o
    have h2 := ih (w.alloc o)
    exact h1.trans (h2.mono (by simp))
theorem bel_grow {B : Nat} {a w : World} (h : Below B a w) (hB : B ≤ w.heap.size) (l : List Obj) : Below B a (grow w l) := h.trans ((grow_bel l w).mono hB)
set_option maxRecDepth 100000 in
set_option maxHeartbeats 16000000 in
theorem about_new (lo hi n : Int) (w : World) : Calls Try.prog 33 #[.agg #[.int .i64 lo, .int .i64 hi], .int .i64 n] w fun e w' => e = .returned (.agg #[.int .i64 (min (min lo hi) n), .int .i64 (max (max lo hi) n)]) ∧ ∃ l, l.length = 10 ∧ w' = grow w l := by
  generalize hm : min lo hi = m
  generalize hM : max lo hi = M
  have c11 : ∀ w : World, Calls Try.prog 11 #[.agg #[.int .i64 lo, .int .i64 hi]] w fun e w' => e = .returned (.agg #[.int .i64 m, .int .i64 M]) ∧ New2 w w' := fun w => by have h := fix_any lo hi w; rw [hm, hM] at h; exact h
  clear hm hM
  go_enter Try.func33, Try.ntmps33
  go_wp2_with (first | (go_at_call 11; refine (c11 _).mono ?_; rintro e w1 ⟨rfl, o1, o2, rfl⟩) | (go_at_call 10; refine (to_any _ _ _).mono ?_; rintro e w1 ⟨rfl, o3, o4, rfl⟩) | (go_at_call 16; refine (of_any _ _).mono ?_; rintro e w1 ⟨rfl, o5, rfl⟩) | (go_at_call 21; refine (join_any _ _ _ _ _).mono ?_; rintro e w1 ⟨rfl, o6, o7, o8, rfl⟩))
  refine bodyPost_ret (by simp [results, Try.results33, go_sem, *]; try rfl) rfl ⟨?_, [.cells #[.int .i64 lo, .int .i64 hi] 23, .cells #[.int .i64 (min m n), .int .i64 (max M n)] 25, o1, o2, o3, o4, o5, o6, o7, o8], rfl, ?_⟩
  · rfl
  · rfl
theorem about_bel (lo hi n : Int) (w : World) : Calls Try.prog 33 #[.agg #[.int .i64 lo, .int .i64 hi], .int .i64 n] w fun e w' => e = .returned (.agg #[.int .i64 (min (min lo hi) n), .int .i64 (max (max lo hi) n)]) ∧ Below w.heap.size w w' :=
  (about_new lo hi n w).mono fun _ _ ⟨h1, l, _, h2⟩ => ⟨h1, h2 ▸ grow_bel l w⟩
end Go.Proofs.Ytpegiljajlljkaa
