import Derived.Test.YtpegiljajlljkaaHu
import Derived.Test.YtpegiljajlljkaaSr1
namespace Go.Proofs.Ytpegiljajlljkaa
open Go.RowKit
theorem RowN.new2 (x y : Int) (w : World) : RowN (w.alloc (.cells #[.int .i64 x, .int .i64 y] 2)) w.heap.size [x, y] := by
  intro j n hj
  match j, hj with
  | 0, hj => simp at hj; subst hj; simp
  | 1, hj => simp at hj; subst hj; simp
def hulP (ok : Bool) (x y : Int) : Int × Int := if ok then (min x y, max x y) else allP
theorem hull2 (x y : Int) (ok : Bool) (c k0 : Nat) (w : World) (hk : k0 = w.heap.size) : Calls Try.prog 46 #[.slice (some ⟨k0, 0, none⟩) 2 c, .bool ok] (w.alloc (.cells #[.int .i64 x, .int .i64 y] 2)) fun e w' => e = .returned (.tuple #[.agg #[.int .i64 (hulP ok x y).1, .int .i64 (hulP ok x y).2], .bool true]) ∧ Below w.heap.size w w' := by
  have k : Below w.heap.size w (w.alloc (.cells #[.int .i64 x, .int .i64 y] 2)) := (Below.refl _ _).alloc (Nat.le_refl _) _
  subst hk
  cases ok
  · refine (hull_no _ _).mono ?_
    rintro e w1 ⟨rfl, hb⟩
    exact ⟨rfl, k.trans (hb.mono (by simp))⟩
  · refine (hull_yes w.heap.size c x [y] _ (RowN.new2 x y w) (Nat.le_of_ble_eq_true rfl)).mono ?_
    rintro e w1 ⟨rfl, hb⟩
    refine ⟨?_, k.trans (hb.mono (by simp))⟩
    rfl
end Go.Proofs.Ytpegiljajlljkaa
