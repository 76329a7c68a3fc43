/- The walk of SatOrder. -/
import Derived.Test.YtofmkhjdnmgdlaaAwake
namespace Go.Proofs.Ytofmkhjdnmgdlaa
open Go.RowKit
set_option linter.unusedVariables false

theorem ob (bits : Int) : wrap64 (1 + Go.bits BinOp.and IntKind.i64 bits 63) = 1 + bits % 64 := by
  rw [i64_and63, w64_in ⟨by omega, by omega⟩]

theorem sat0_eq (x b : Int) (h1 : 1 ≤ b) (h2 : b ≤ 64) : sat0 x b = satI x b := by unfold sat0; rw [if_pos ⟨h1, h2⟩]
theorem satI_fits (x b : Int) (h : -(pw b) ≤ x ∧ x ≤ pw b - 1) : satI x b = x := by unfold satI clampI; rw [if_neg (by omega), if_neg (by omega)]
theorem satI_twice (x b : Int) : satI (satI x b) b = satI x b := satI_fits _ _ (satI_in x b)
theorem satI_mono (x y b : Int) (h : x ≤ y) : satI x b ≤ satI y b := by
  have := pw_pos b
  unfold satI clampI
  repeat' split
  all_goals omega
theorem satI_sign (x b : Int) : (x < 0 ↔ satI x b < 0) := by
  have := pw_pos b
  unfold satI clampI
  repeat' split
  all_goals omega
theorem fits_sat (x b c : Int) (h1 : 1 ≤ b) (h2 : b ≤ c) (h3 : c ≤ 64) : fitsB (satI x b) c = true := by
  have := satI_in x b
  have := pw_mono b c h2
  unfold fitsB
  exact decide_eq_true ⟨by omega, h3, by omega, by omega⟩
theorem fits_iff (x b : Int) (h1 : 1 ≤ b) (h2 : b ≤ 64) : fitsB x b = (satI x b == x) := by
  have := pw_pos b
  unfold fitsB
  by_cases h : -(pw b) ≤ x ∧ x ≤ pw b - 1
  · rw [satI_fits x b h]; simp [h1, h2, h]
  · rw [decide_eq_false (by omega)]
    have : satI x b ≠ x := by have := satI_in x b; omega
    simp [this]
theorem clamp_self (x s : Int) : clampI x s s = s := by unfold clampI; split <;> (try split) <;> omega

set_option maxHeartbeats 1000000 in
theorem order_walk (x y bits : Int) (w : World) :
    Calls Try.prog 4 #[.int .i64 x, .int .i64 y, .int .i64 bits] w fun e w' => e = .returned (.bool true) ∧ Below w.heap.size w w' := by
  go_enter Try.func4, Try.ntmps4
  go_wp2_with fail
  refine (awake_any _).mono ?_
  rintro e w1 ⟨rfl, hb1⟩
  go_wp2_with fail
  rw [ob bits]
  have h1 : 1 ≤ 1 + bits % 64 := by omega
  have h2 : 1 + bits % 64 ≤ 64 := by omega
  generalize 1 + bits % 64 = b at *
  have Hf := hide (fits_iff x b h1 h2)
  have Ht := hide (satI_twice x b)
  have Hs := hide (fun c => fits_sat x b c h1)
  have hm := satI_mono x y b
  have hg := satI_sign x b
  refine (sat_any _ _ _).mono ?_
  rintro e w2 ⟨rfl, rfl⟩
  rw [sat0_eq x b h1 h2]
  generalize satI x b = s at *
  go_wp2_with fail
  refine (sat_any _ _ _).mono ?_
  rintro e w2 ⟨rfl, rfl⟩
  rw [sat0_eq y b h1 h2]
  generalize satI y b = t at *
  have hd : (decide (x ≤ y) && decide (t < s)) = false := by
    by_cases c : x ≤ y
    · have := hm c; simp; omega
    · simp [c]
  have hsg : (decide (x < 0) == decide (s < 0)) = true := by
    by_cases c : x < 0
    · simp [c, hg.1 c]
    · have : ¬ s < 0 := fun h => c (hg.2 h)
      simp [c, this]
  clear hm hg
  have hneq : (s == x) = (s == x) := rfl
  have cc : (decide (x ≤ y) = true ∧ decide (t < s) = false) ∨ decide (x ≤ y) = false := by
    by_cases c : x ≤ y
    · left; exact ⟨by simp [c], by simpa [c] using hd⟩
    · right; simp [c]
  clear hd hneq
  rcases cc with ⟨c, c'⟩ | c
  all_goals
    go_wp2_with fail
    refine (fits_any _ _ _).mono ?_
    rintro e w3 ⟨rfl, rfl⟩
    rw [unhide Hs b (Int.le_refl _) h2]
    go_wp2_with fail
    refine (sat_any _ _ _).mono ?_
    rintro e w3 ⟨rfl, rfl⟩
    rw [sat0_eq s b h1 h2, unhide Ht]
    go_wp2_with fail
    refine (fits_any _ _ _).mono ?_
    rintro e w3 ⟨rfl, rfl⟩
    rw [unhide Hf]
    go_wp2
    go_loopw [11] (fun i wr => ∃ k : Int, b ≤ k ∧ k ≤ 65 ∧ i = .int .i64 k ∧ wr = w3) (fun i _ => (65 - intOf i).toNat)
    case atStart => exact ⟨b, Int.le_refl _, by omega, rfl, rfl⟩
    case round =>
      obtain ⟨k, hk1, hk2, rfl, rfl⟩ := hrel
      by_cases hlt : k ≤ 64
      · go_wp2_with fail
        refine (fits_any _ _ _).mono ?_
        rintro e w4 ⟨rfl, rfl⟩
        rw [unhide Hs k hk1 hlt]
        go_wp2
        go_roundw
        case rel => exact ⟨k + 1, by omega, by omega, by go_num, trivial⟩
        case measure => simp [intOf]; omega
      · go_wp2_with fail
        refine (clamp_any _ _ _ _).mono ?_
        rintro e w4 ⟨rfl, rfl⟩
        rw [clamp_self]
        go_wp2
        go_ret
        exact ⟨rfl, hb1⟩
end Go.Proofs.Ytofmkhjdnmgdlaa
