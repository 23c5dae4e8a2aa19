import Derived.Test.YtpegiljajlljkaaSi
import Derived.Lib.ItoaWalk
import Derived.Deep.CutBlock
namespace Go.Proofs.Ytpegiljajlljkaa
open Go.RowKit
/-- the three boxes of quotients: a, b, what is returned -/
structure Q4 (w W : World) (A : Nat) (a b : Int × Int) : Prop where
  xa : Bx W A a.1 a.2
  xb : Bx W (A + 1) b.1 b.2
  xr : Bz W (A + 1 + 1) 0 0
  bel : Below A w W
theorem Q4.keep {w W W' : World} {A : Nat} {a b : Int × Int} (h : Q4 w W A a b) (hb : Below W.heap.size W W') : Q4 w W' A a b :=
  ⟨h.xa.keep hb, h.xb.keep hb, h.xr.keep hb, h.bel.trans (hb.mono (Nat.le_of_lt h.xa.lt))⟩
theorem Q4.start (w : World) (a b : Int × Int) : Q4 w (((w.alloc (.cells #[.int .i64 a.1, .int .i64 a.2] 25)).alloc (.cells #[.int .i64 b.1, .int .i64 b.2] 25)).alloc (.cells #[.int .i64 0, .int .i64 0] 25)) w.heap.size a b := by
  have h1 := Bx.new w a.1 a.2 25
  have h2 := Bx.new (w.alloc (.cells #[.int .i64 a.1, .int .i64 a.2] 25)) b.1 b.2 25
  have h3 := Bz.new ((w.alloc (.cells #[.int .i64 a.1, .int .i64 a.2] 25)).alloc (.cells #[.int .i64 b.1, .int .i64 b.2] 25)) 0 0 25
  have k : ∀ (x : World) (o : Obj), Below x.heap.size x (x.alloc o) := fun x o => (Below.refl _ _).alloc (Nat.le_refl _) o
  exact ⟨(h1.keep (k _ _)).keep (k _ _), by simpa using h2.keep (k _ _), by simpa using h3, (by repeat (first | exact Below.refl _ _ | (refine Below.drew ?_) | (refine below_drewN ?_ _) | (refine Below.setCell ?_ (by first | omega | (simp; done) | (simp; omega)) _) | (refine Below.alloc ?_ (by first | omega | (simp; done) | (simp; omega)) _) | (refine Below.trans ?_ (Below.mono (by assumption) (by first | omega | (simp; done) | (simp; omega))))))⟩
end Go.Proofs.Ytpegiljajlljkaa
