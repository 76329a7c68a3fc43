/- The statements' awake: the chapter's examples. -/
import Derived.Test.YtbommgfoahopfaaNorm
namespace Go.Proofs.Ytbommgfoahopfaa
open Go.RowKit
set_option linter.unusedVariables false

theorem log1 : logI 1 = 0 := by decide +kernel
theorem log3 : logI 3 = 405 := by decide +kernel
theorem log8 : logI 8 = 768 := by decide +kernel
theorem root99 : rootI 99 = 9 := rootI_eq 99 9 (by decide) (by decide) (by decide)
theorem norm38 : normI [3, -8] = 4 := by decide +kernel

set_option maxHeartbeats 1000000 in
theorem awake_any (w : World) : Calls Try.prog 8 #[] w fun e w' => e = .returned (.bool true) ∧ Below w.heap.size w w' := by
  go_enter Try.func8, Try.ntmps8
  go_wp2_with fail
  refine (log_any 1 _ ⟨by decide, by decide⟩).mono ?_
  rintro e w1 ⟨rfl, rfl⟩
  rw [log1]
  go_wp2_with fail
  refine (log_any 3 _ ⟨by decide, by decide⟩).mono ?_
  rintro e w2 ⟨rfl, rfl⟩
  rw [log3]
  go_wp2_with fail
  refine (log_any 8 _ ⟨by decide, by decide⟩).mono ?_
  rintro e w3 ⟨rfl, rfl⟩
  rw [log8]
  go_wp2_with fail
  refine (root_any 99 _ ⟨by decide, by decide⟩).mono ?_
  rintro e w4 ⟨rfl, hb4⟩
  rw [root99]
  go_wp2_with fail
  refine (norm_any _ _ [3, -8] 2 rfl _ (lies_new w4 [3, -8] _ rfl) (by intro y hy; simp at hy; rcases hy with rfl | rfl <;> exact ⟨by decide, by decide⟩) (by decide)).mono ?_
  rintro e w5 ⟨rfl, rfl⟩
  rw [norm38]
  go_wp2
  go_ret
  exact ⟨rfl, hb4.alloc hb4.size _⟩
end Go.Proofs.Ytbommgfoahopfaa
