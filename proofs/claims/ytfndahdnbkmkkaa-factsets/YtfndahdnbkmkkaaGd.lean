import Derived.Test.YtfndahdnbkmkkaaFl
namespace Go.Proofs.Ytfndahdnbkmkkaa
open Go.RowKit
set_option maxRecDepth 100000 in
set_option maxHeartbeats 16000000 in
theorem rightr_V (s : Int) (k : Bool) (n lo hi p : Int) (w : World) : Calls Try.prog 8 #[.agg #[.int .i64 s, .bool k, .int .i64 n, .int .i64 lo, .int .i64 hi, .int .i64 p]] w fun e w' => e = .returned (.bool (rightR s k n lo hi p)) ∧ Below w.heap.size w w' := by
  by_cases h0 : 1 ≤ s
  · by_cases h1 : s ≤ 7
    · cases k
      · by_cases hn : n = 0
        · subst hn
          by_cases h3 : lo ≤ hi
          · by_cases h4 : 1 ≤ p
            · by_cases h5 : p ≤ 3
              · have HR : Hid (rightR s false 0 lo hi p = true) := by unfold Hid rightR rightK; simp [*]
                generalize rightR s false 0 lo hi p = r at *
                have x0 : Br (w.alloc (.cells #[.int .i64 s, .bool false, .int .i64 0, .int .i64 lo, .int .i64 hi, .int .i64 p] 27)) (w.heap.size) s false 0 lo hi p := (Br.new w s false 0 lo hi p 27)
                have xb : Below w.heap.size w (w.alloc (.cells #[.int .i64 s, .bool false, .int .i64 0, .int .i64 lo, .int .i64 hi, .int .i64 p] 27)) := (by repeat (first | exact Below.refl _ _ | (refine Below.drew ?_) | (refine below_drewN ?_ _) | (refine Below.setCell ?_ (by first | omega | (simp; done) | (simp; omega)) _) | (refine Below.alloc ?_ (by first | omega | (simp; done) | (simp; omega)) _) | (refine Below.trans ?_ (Below.mono (by assumption) (by first | omega | (simp; done) | (simp; omega))))))
                go_enter Try.func8, Try.ntmps8
                go_upto_region 1 with fail
                go_name_world W hW
                rw [hW] at x0 xb
                clear hW
                obtain ⟨N, hN⟩ : ∃ N, N = w.heap.size := ⟨_, rfl⟩
                rw [← hN] at x0 xb ⊢
                have HN : Hid (N = w.heap.size) := hN
                clear hN
                have a0 := x0.c0
                have a1 := x0.c1
                have a2 := x0.c2
                have a3 := x0.c3
                have a4 := x0.c4
                have a5 := x0.c5
                clear x0
                go_wp2_with fail
                go_ret
                exact ⟨by rw [HR.out] <;> rfl, by rw [← HN.out]; exact xb⟩
              · have HR : Hid (rightR s false 0 lo hi p = false) := by unfold Hid rightR rightK; simp [*]
                generalize rightR s false 0 lo hi p = r at *
                have x0 : Br (w.alloc (.cells #[.int .i64 s, .bool false, .int .i64 0, .int .i64 lo, .int .i64 hi, .int .i64 p] 27)) (w.heap.size) s false 0 lo hi p := (Br.new w s false 0 lo hi p 27)
                have xb : Below w.heap.size w (w.alloc (.cells #[.int .i64 s, .bool false, .int .i64 0, .int .i64 lo, .int .i64 hi, .int .i64 p] 27)) := (by repeat (first | exact Below.refl _ _ | (refine Below.drew ?_) | (refine below_drewN ?_ _) | (refine Below.setCell ?_ (by first | omega | (simp; done) | (simp; omega)) _) | (refine Below.alloc ?_ (by first | omega | (simp; done) | (simp; omega)) _) | (refine Below.trans ?_ (Below.mono (by assumption) (by first | omega | (simp; done) | (simp; omega))))))
                go_enter Try.func8, Try.ntmps8
                go_upto_region 1 with fail
                go_name_world W hW
                rw [hW] at x0 xb
                clear hW
                obtain ⟨N, hN⟩ : ∃ N, N = w.heap.size := ⟨_, rfl⟩
                rw [← hN] at x0 xb ⊢
                have HN : Hid (N = w.heap.size) := hN
                clear hN
                have a0 := x0.c0
                have a1 := x0.c1
                have a2 := x0.c2
                have a3 := x0.c3
                have a4 := x0.c4
                have a5 := x0.c5
                clear x0
                go_wp2_with fail
                go_ret
                exact ⟨by rw [HR.out] <;> rfl, by rw [← HN.out]; exact xb⟩
            · have HR : Hid (rightR s false 0 lo hi p = false) := by unfold Hid rightR rightK; simp [*]
              generalize rightR s false 0 lo hi p = r at *
              have x0 : Br (w.alloc (.cells #[.int .i64 s, .bool false, .int .i64 0, .int .i64 lo, .int .i64 hi, .int .i64 p] 27)) (w.heap.size) s false 0 lo hi p := (Br.new w s false 0 lo hi p 27)
              have xb : Below w.heap.size w (w.alloc (.cells #[.int .i64 s, .bool false, .int .i64 0, .int .i64 lo, .int .i64 hi, .int .i64 p] 27)) := (by repeat (first | exact Below.refl _ _ | (refine Below.drew ?_) | (refine below_drewN ?_ _) | (refine Below.setCell ?_ (by first | omega | (simp; done) | (simp; omega)) _) | (refine Below.alloc ?_ (by first | omega | (simp; done) | (simp; omega)) _) | (refine Below.trans ?_ (Below.mono (by assumption) (by first | omega | (simp; done) | (simp; omega))))))
              go_enter Try.func8, Try.ntmps8
              go_upto_region 1 with fail
              go_name_world W hW
              rw [hW] at x0 xb
              clear hW
              obtain ⟨N, hN⟩ : ∃ N, N = w.heap.size := ⟨_, rfl⟩
              rw [← hN] at x0 xb ⊢
              have HN : Hid (N = w.heap.size) := hN
              clear hN
              have a0 := x0.c0
              have a1 := x0.c1
              have a2 := x0.c2
              have a3 := x0.c3
              have a4 := x0.c4
              have a5 := x0.c5
              clear x0
              go_wp2_with fail
              go_ret
              exact ⟨by rw [HR.out] <;> rfl, by rw [← HN.out]; exact xb⟩
          · have HR : Hid (rightR s false 0 lo hi p = false) := by unfold Hid rightR rightK; simp [*]
            generalize rightR s false 0 lo hi p = r at *
            have x0 : Br (w.alloc (.cells #[.int .i64 s, .bool false, .int .i64 0, .int .i64 lo, .int .i64 hi, .int .i64 p] 27)) (w.heap.size) s false 0 lo hi p := (Br.new w s false 0 lo hi p 27)
            have xb : Below w.heap.size w (w.alloc (.cells #[.int .i64 s, .bool false, .int .i64 0, .int .i64 lo, .int .i64 hi, .int .i64 p] 27)) := (by repeat (first | exact Below.refl _ _ | (refine Below.drew ?_) | (refine below_drewN ?_ _) | (refine Below.setCell ?_ (by first | omega | (simp; done) | (simp; omega)) _) | (refine Below.alloc ?_ (by first | omega | (simp; done) | (simp; omega)) _) | (refine Below.trans ?_ (Below.mono (by assumption) (by first | omega | (simp; done) | (simp; omega))))))
            go_enter Try.func8, Try.ntmps8
            go_upto_region 1 with fail
            go_name_world W hW
            rw [hW] at x0 xb
            clear hW
            obtain ⟨N, hN⟩ : ∃ N, N = w.heap.size := ⟨_, rfl⟩
            rw [← hN] at x0 xb ⊢
            have HN : Hid (N = w.heap.size) := hN
            clear hN
            have a0 := x0.c0
            have a1 := x0.c1
            have a2 := x0.c2
            have a3 := x0.c3
            have a4 := x0.c4
            have a5 := x0.c5
            clear x0
            go_wp2_with fail
            go_ret
            exact ⟨by rw [HR.out] <;> rfl, by rw [← HN.out]; exact xb⟩
        · have HR : Hid (rightR s false n lo hi p = false) := by unfold Hid rightR rightK; simp [*]
          generalize rightR s false n lo hi p = r at *
          have x0 : Br (w.alloc (.cells #[.int .i64 s, .bool false, .int .i64 n, .int .i64 lo, .int .i64 hi, .int .i64 p] 27)) (w.heap.size) s false n lo hi p := (Br.new w s false n lo hi p 27)
          have xb : Below w.heap.size w (w.alloc (.cells #[.int .i64 s, .bool false, .int .i64 n, .int .i64 lo, .int .i64 hi, .int .i64 p] 27)) := (by repeat (first | exact Below.refl _ _ | (refine Below.drew ?_) | (refine below_drewN ?_ _) | (refine Below.setCell ?_ (by first | omega | (simp; done) | (simp; omega)) _) | (refine Below.alloc ?_ (by first | omega | (simp; done) | (simp; omega)) _) | (refine Below.trans ?_ (Below.mono (by assumption) (by first | omega | (simp; done) | (simp; omega))))))
          go_enter Try.func8, Try.ntmps8
          go_upto_region 1 with fail
          go_name_world W hW
          rw [hW] at x0 xb
          clear hW
          obtain ⟨N, hN⟩ : ∃ N, N = w.heap.size := ⟨_, rfl⟩
          rw [← hN] at x0 xb ⊢
          have HN : Hid (N = w.heap.size) := hN
          clear hN
          have a0 := x0.c0
          have a1 := x0.c1
          have a2 := x0.c2
          have a3 := x0.c3
          have a4 := x0.c4
          have a5 := x0.c5
          clear x0
          go_wp2_with fail
          go_ret
          exact ⟨by rw [HR.out] <;> rfl, by rw [← HN.out]; exact xb⟩
      · by_cases h3 : lo ≤ hi
        · by_cases h4 : 1 ≤ p
          · by_cases h5 : p ≤ 3
            · have HR : Hid (rightR s true n lo hi p = true) := by unfold Hid rightR rightK; simp [*]
              generalize rightR s true n lo hi p = r at *
              have x0 : Br (w.alloc (.cells #[.int .i64 s, .bool true, .int .i64 n, .int .i64 lo, .int .i64 hi, .int .i64 p] 27)) (w.heap.size) s true n lo hi p := (Br.new w s true n lo hi p 27)
              have xb : Below w.heap.size w (w.alloc (.cells #[.int .i64 s, .bool true, .int .i64 n, .int .i64 lo, .int .i64 hi, .int .i64 p] 27)) := (by repeat (first | exact Below.refl _ _ | (refine Below.drew ?_) | (refine below_drewN ?_ _) | (refine Below.setCell ?_ (by first | omega | (simp; done) | (simp; omega)) _) | (refine Below.alloc ?_ (by first | omega | (simp; done) | (simp; omega)) _) | (refine Below.trans ?_ (Below.mono (by assumption) (by first | omega | (simp; done) | (simp; omega))))))
              go_enter Try.func8, Try.ntmps8
              go_upto_region 1 with fail
              go_name_world W hW
              rw [hW] at x0 xb
              clear hW
              obtain ⟨N, hN⟩ : ∃ N, N = w.heap.size := ⟨_, rfl⟩
              rw [← hN] at x0 xb ⊢
              have HN : Hid (N = w.heap.size) := hN
              clear hN
              have a0 := x0.c0
              have a1 := x0.c1
              have a2 := x0.c2
              have a3 := x0.c3
              have a4 := x0.c4
              have a5 := x0.c5
              clear x0
              go_wp2_with fail
              go_ret
              exact ⟨by rw [HR.out] <;> rfl, by rw [← HN.out]; exact xb⟩
            · have HR : Hid (rightR s true n lo hi p = false) := by unfold Hid rightR rightK; simp [*]
              generalize rightR s true n lo hi p = r at *
              have x0 : Br (w.alloc (.cells #[.int .i64 s, .bool true, .int .i64 n, .int .i64 lo, .int .i64 hi, .int .i64 p] 27)) (w.heap.size) s true n lo hi p := (Br.new w s true n lo hi p 27)
              have xb : Below w.heap.size w (w.alloc (.cells #[.int .i64 s, .bool true, .int .i64 n, .int .i64 lo, .int .i64 hi, .int .i64 p] 27)) := (by repeat (first | exact Below.refl _ _ | (refine Below.drew ?_) | (refine below_drewN ?_ _) | (refine Below.setCell ?_ (by first | omega | (simp; done) | (simp; omega)) _) | (refine Below.alloc ?_ (by first | omega | (simp; done) | (simp; omega)) _) | (refine Below.trans ?_ (Below.mono (by assumption) (by first | omega | (simp; done) | (simp; omega))))))
              go_enter Try.func8, Try.ntmps8
              go_upto_region 1 with fail
              go_name_world W hW
              rw [hW] at x0 xb
              clear hW
              obtain ⟨N, hN⟩ : ∃ N, N = w.heap.size := ⟨_, rfl⟩
              rw [← hN] at x0 xb ⊢
              have HN : Hid (N = w.heap.size) := hN
              clear hN
              have a0 := x0.c0
              have a1 := x0.c1
              have a2 := x0.c2
              have a3 := x0.c3
              have a4 := x0.c4
              have a5 := x0.c5
              clear x0
              go_wp2_with fail
              go_ret
              exact ⟨by rw [HR.out] <;> rfl, by rw [← HN.out]; exact xb⟩
          · have HR : Hid (rightR s true n lo hi p = false) := by unfold Hid rightR rightK; simp [*]
            generalize rightR s true n lo hi p = r at *
            have x0 : Br (w.alloc (.cells #[.int .i64 s, .bool true, .int .i64 n, .int .i64 lo, .int .i64 hi, .int .i64 p] 27)) (w.heap.size) s true n lo hi p := (Br.new w s true n lo hi p 27)
            have xb : Below w.heap.size w (w.alloc (.cells #[.int .i64 s, .bool true, .int .i64 n, .int .i64 lo, .int .i64 hi, .int .i64 p] 27)) := (by repeat (first | exact Below.refl _ _ | (refine Below.drew ?_) | (refine below_drewN ?_ _) | (refine Below.setCell ?_ (by first | omega | (simp; done) | (simp; omega)) _) | (refine Below.alloc ?_ (by first | omega | (simp; done) | (simp; omega)) _) | (refine Below.trans ?_ (Below.mono (by assumption) (by first | omega | (simp; done) | (simp; omega))))))
            go_enter Try.func8, Try.ntmps8
            go_upto_region 1 with fail
            go_name_world W hW
            rw [hW] at x0 xb
            clear hW
            obtain ⟨N, hN⟩ : ∃ N, N = w.heap.size := ⟨_, rfl⟩
            rw [← hN] at x0 xb ⊢
            have HN : Hid (N = w.heap.size) := hN
            clear hN
            have a0 := x0.c0
            have a1 := x0.c1
            have a2 := x0.c2
            have a3 := x0.c3
            have a4 := x0.c4
            have a5 := x0.c5
            clear x0
            go_wp2_with fail
            go_ret
            exact ⟨by rw [HR.out] <;> rfl, by rw [← HN.out]; exact xb⟩
        · have HR : Hid (rightR s true n lo hi p = false) := by unfold Hid rightR rightK; simp [*]
          generalize rightR s true n lo hi p = r at *
          have x0 : Br (w.alloc (.cells #[.int .i64 s, .bool true, .int .i64 n, .int .i64 lo, .int .i64 hi, .int .i64 p] 27)) (w.heap.size) s true n lo hi p := (Br.new w s true n lo hi p 27)
          have xb : Below w.heap.size w (w.alloc (.cells #[.int .i64 s, .bool true, .int .i64 n, .int .i64 lo, .int .i64 hi, .int .i64 p] 27)) := (by repeat (first | exact Below.refl _ _ | (refine Below.drew ?_) | (refine below_drewN ?_ _) | (refine Below.setCell ?_ (by first | omega | (simp; done) | (simp; omega)) _) | (refine Below.alloc ?_ (by first | omega | (simp; done) | (simp; omega)) _) | (refine Below.trans ?_ (Below.mono (by assumption) (by first | omega | (simp; done) | (simp; omega))))))
          go_enter Try.func8, Try.ntmps8
          go_upto_region 1 with fail
          go_name_world W hW
          rw [hW] at x0 xb
          clear hW
          obtain ⟨N, hN⟩ : ∃ N, N = w.heap.size := ⟨_, rfl⟩
          rw [← hN] at x0 xb ⊢
          have HN : Hid (N = w.heap.size) := hN
          clear hN
          have a0 := x0.c0
          have a1 := x0.c1
          have a2 := x0.c2
          have a3 := x0.c3
          have a4 := x0.c4
          have a5 := x0.c5
          clear x0
          go_wp2_with fail
          go_ret
          exact ⟨by rw [HR.out] <;> rfl, by rw [← HN.out]; exact xb⟩
    · have HR : Hid (rightR s k n lo hi p = false) := by unfold Hid rightR rightK; simp [*]
      generalize rightR s k n lo hi p = r at *
      have x0 : Br (w.alloc (.cells #[.int .i64 s, .bool k, .int .i64 n, .int .i64 lo, .int .i64 hi, .int .i64 p] 27)) (w.heap.size) s k n lo hi p := (Br.new w s k n lo hi p 27)
      have xb : Below w.heap.size w (w.alloc (.cells #[.int .i64 s, .bool k, .int .i64 n, .int .i64 lo, .int .i64 hi, .int .i64 p] 27)) := (by repeat (first | exact Below.refl _ _ | (refine Below.drew ?_) | (refine below_drewN ?_ _) | (refine Below.setCell ?_ (by first | omega | (simp; done) | (simp; omega)) _) | (refine Below.alloc ?_ (by first | omega | (simp; done) | (simp; omega)) _) | (refine Below.trans ?_ (Below.mono (by assumption) (by first | omega | (simp; done) | (simp; omega))))))
      go_enter Try.func8, Try.ntmps8
      go_upto_region 1 with fail
      go_name_world W hW
      rw [hW] at x0 xb
      clear hW
      obtain ⟨N, hN⟩ : ∃ N, N = w.heap.size := ⟨_, rfl⟩
      rw [← hN] at x0 xb ⊢
      have HN : Hid (N = w.heap.size) := hN
      clear hN
      have a0 := x0.c0
      have a1 := x0.c1
      have a2 := x0.c2
      have a3 := x0.c3
      have a4 := x0.c4
      have a5 := x0.c5
      clear x0
      go_wp2_with fail
      go_ret
      exact ⟨by rw [HR.out] <;> rfl, by rw [← HN.out]; exact xb⟩
  · have HR : Hid (rightR s k n lo hi p = false) := by unfold Hid rightR rightK; simp [*]
    generalize rightR s k n lo hi p = r at *
    have x0 : Br (w.alloc (.cells #[.int .i64 s, .bool k, .int .i64 n, .int .i64 lo, .int .i64 hi, .int .i64 p] 27)) (w.heap.size) s k n lo hi p := (Br.new w s k n lo hi p 27)
    have xb : Below w.heap.size w (w.alloc (.cells #[.int .i64 s, .bool k, .int .i64 n, .int .i64 lo, .int .i64 hi, .int .i64 p] 27)) := (by repeat (first | exact Below.refl _ _ | (refine Below.drew ?_) | (refine below_drewN ?_ _) | (refine Below.setCell ?_ (by first | omega | (simp; done) | (simp; omega)) _) | (refine Below.alloc ?_ (by first | omega | (simp; done) | (simp; omega)) _) | (refine Below.trans ?_ (Below.mono (by assumption) (by first | omega | (simp; done) | (simp; omega))))))
    go_enter Try.func8, Try.ntmps8
    go_upto_region 1 with fail
    go_name_world W hW
    rw [hW] at x0 xb
    clear hW
    obtain ⟨N, hN⟩ : ∃ N, N = w.heap.size := ⟨_, rfl⟩
    rw [← hN] at x0 xb ⊢
    have HN : Hid (N = w.heap.size) := hN
    clear hN
    have a0 := x0.c0
    have a1 := x0.c1
    have a2 := x0.c2
    have a3 := x0.c3
    have a4 := x0.c4
    have a5 := x0.c5
    clear x0
    go_wp2_with fail
    go_ret
    exact ⟨by rw [HR.out] <;> rfl, by rw [← HN.out]; exact xb⟩
end Go.Proofs.Ytfndahdnbkmkkaa
