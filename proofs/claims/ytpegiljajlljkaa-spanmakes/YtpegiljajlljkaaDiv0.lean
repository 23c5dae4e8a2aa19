import Derived.Test.YtpegiljajlljkaaHu
import Derived.Test.YtpegiljajlljkaaDv0
namespace Go.Proofs.Ytpegiljajlljkaa
open Go.RowKit
/-- the three boxes of div: a, b, what is returned -/
structure D4 (w W : World) (A : Nat) (a b : Int × Int) : Prop where
  xa : Bx W A a.1 a.2
  xb : Bx W (A + 1) b.1 b.2
  xr : Bz W (A + 1 + 1) 0 0
  bel : Below A w W
theorem D4.keep {w W W' : World} {A : Nat} {a b : Int × Int} (h : D4 w W A a b) (hb : Below W.heap.size W W') : D4 w W' A a b :=
  ⟨h.xa.keep hb, h.xb.keep hb, h.xr.keep hb, h.bel.trans (hb.mono (Nat.le_of_lt h.xa.lt))⟩
theorem D4.start (w : World) (a b : Int × Int) : D4 w (((w.alloc (.cells #[.int .i64 a.1, .int .i64 a.2] 23)).alloc (.cells #[.int .i64 b.1, .int .i64 b.2] 23)).alloc (.cells #[.int .i64 0, .int .i64 0] 23)) w.heap.size a b := by
  have h1 := Bx.new w a.1 a.2 23
  have h2 := Bx.new (w.alloc (.cells #[.int .i64 a.1, .int .i64 a.2] 23)) b.1 b.2 23
  have h3 := Bz.new ((w.alloc (.cells #[.int .i64 a.1, .int .i64 a.2] 23)).alloc (.cells #[.int .i64 b.1, .int .i64 b.2] 23)) 0 0 23
  have k : ∀ (x : World) (o : Obj), Below x.heap.size x (x.alloc o) := fun x o => (Below.refl _ _).alloc (Nat.le_refl _) o
  exact ⟨(h1.keep (k _ _)).keep (k _ _), by simpa using h2.keep (k _ _), by simpa using h3, (by repeat (first | exact Below.refl _ _ | (refine Below.drew ?_) | (refine below_drewN ?_ _) | (refine Below.setCell ?_ (by first | omega | (simp; done) | (simp; omega)) _) | (refine Below.alloc ?_ (by first | omega | (simp; done) | (simp; omega)) _) | (refine Below.trans ?_ (Below.mono (by assumption) (by first | omega | (simp; done) | (simp; omega))))))⟩
theorem quo_wrap (x e : Int) (hx : i64 x) (he : e ≠ 0) (hm : ¬ (x = -9223372036854775808 ∧ e = -1)) : IntKind.i64.wrap (x.tdiv e) = x.tdiv e := by
  have q := tdiv_fit x e hx he hm
  rw [wrapK]
  exact wrap_fit _ q.1 q.2
end Go.Proofs.Ytpegiljajlljkaa
