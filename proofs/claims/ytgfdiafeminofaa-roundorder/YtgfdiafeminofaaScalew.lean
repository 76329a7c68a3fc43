/- The walk of RoundScale. -/
import Derived.Test.YtgfdiafeminofaaNear
namespace Go.Proofs.Ytgfdiafeminofaa
open Go.RowKit
set_option linter.unusedVariables false

theorem scale_one (x j : Int) (h1 : 0 ≤ j) (h2 : j ≤ 14) : scaleI x (two j) j = clampI x (-2147483648) 2147483647 := by
  have h3 := two_pos j
  have h4 := two_le j 14 h2
  rw [show (2 : Int) ^ 14 = 16384 by decide] at h4
  rw [scaleI_yes _ _ _ (by omega) (by omega) h1 (by omega), div_whole _ _ h3]
theorem scale_zero (x k : Int) (h1 : 0 ≤ k) (h2 : k ≤ 30) : scaleI x 0 k = 0 := by
  have h3 := two_pos k
  rw [scaleI_yes _ _ _ (by omega) (by omega) h1 h2, Int.mul_zero, divI_eq _ _ h3, Int.ediv_eq_zero_of_lt (by omega) (by omega)]
  decide
theorem scale_twice (x t k : Int) (h1 : 0 ≤ t) (h2 : t ≤ 16383) (h3 : 0 ≤ k) (h4 : k ≤ 29) : scaleI x (2 * t) (k + 1) = scaleI x t k := by
  have h5 := two_pos k
  rw [scaleI_yes _ _ _ (by omega) (by omega) (by omega) (by omega), scaleI_yes _ _ _ (by omega) (by omega) h3 (by omega), two_succ k h3, divI_eq _ _ (by omega), divI_eq _ _ h5]
  rw [show 2 * (x * (2 * t)) + 2 * two k = 2 * (2 * (x * t) + two k) by rw [Int.mul_left_comm x 2 t]; omega, Int.mul_ediv_mul_of_pos _ _ (by decide)]
theorem scaleI_bd (x m s : Int) : -2147483648 ≤ scaleI x m s ∧ scaleI x m s ≤ 2147483647 := by
  unfold scaleI clampI
  repeat' split
  all_goals omega
theorem scaleI_in (x m s : Int) : In64 (scaleI x m s) := by
  have := scaleI_bd x m s
  exact ⟨by omega, by omega⟩
theorem mod14 (n : Int) : bits .and .i64 n 16383 = n % 16384 := i64_mask n 16383 14 (by decide) (by decide)

set_option maxHeartbeats 1000000 in
theorem scale_walk (x mu sh : Int) (w : World) (hx : In64 x) :
    Calls Try.prog 6 #[.int .i64 x, .int .i64 mu, .int .i64 sh] w fun e w' => e = .returned (.bool true) ∧ Below w.heap.size w w' := by
  have hm := mod_bd sh 30 (by decide) (by decide)
  have ht := mod14 mu
  have ht1 : 0 ≤ bits .and .i64 mu 16383 ∧ bits .and .i64 mu 16383 ≤ 16383 := by rw [ht]; omega
  clear ht
  obtain ⟨one, c0⟩ : ∃ one, clampI x (-2147483648) 2147483647 = one := ⟨_, rfl⟩
  have hc : (2147483647 < x ∧ one = 2147483647) ∨ (x < -2147483648 ∧ ¬ 2147483647 < x ∧ one = -2147483648) ∨ (¬ x < -2147483648 ∧ ¬ 2147483647 < x ∧ x = one) := by
    unfold clampI at c0
    split at c0
    · omega
    · split at c0 <;> omega
  have C0 := hide c0
  clear c0
  rcases hc with ⟨c1, rfl⟩ | ⟨c1, c2, rfl⟩ | ⟨c1, c2, rfl⟩
  all_goals
    go_enter Try.func6, Try.ntmps6
    go_wp2_with fail
    refine (awake_any _).mono ?_
    rintro e w1 ⟨rfl, hb1⟩
    go_wp2_with fail
    generalize bits .and .i64 mu 16383 = t at *
    generalize (wrap64 (sh.tmod 30 + 30)).tmod 30 = k at *
    obtain ⟨hk1, hk2⟩ := hm
    obtain ⟨ht1, ht2⟩ := ht1
    have HZ := hide (scale_zero x k hk1 (by omega))
    have HT := hide (scale_twice x t k ht1 ht2 hk1 (by omega))
    have HO := hide (scale_one x (k % 15) (by omega) (by omega))
    have e1 : wrap64 (2 ^ (k % 15).toNat) = two (k % 15) := w64_in (two_in (k % 15) (by omega))
    have hbd := scaleI_bd x t k
    refine (scale_any _ _ _ _ hx).mono ?_
    rintro e w2 ⟨rfl, hb2⟩
    generalize scaleI x t k = s at *
    obtain ⟨hbd1, hbd2⟩ := hbd
    go_wp2_with fail
    refine (scale_any _ _ _ _ hx).mono ?_
    rintro e w3 ⟨rfl, hb3⟩
    rw [unhide HO, unhide C0]
    clear e1
    go_wp2_with fail
    refine (scale_any _ _ _ _ hx).mono ?_
    rintro e w4 ⟨rfl, hb4⟩
    rw [unhide HZ]
    go_wp2_with fail
    refine (scale_any _ _ _ _ hx).mono ?_
    rintro e w5 ⟨rfl, hb5⟩
    rw [unhide HT]
    go_wp2
    go_ret
    exact ⟨ret_bool (decide_eq_true (by omega)), below_trans (below_trans (below_trans (below_trans hb1 hb2) hb3) hb4) hb5⟩
end Go.Proofs.Ytgfdiafeminofaa
