/- The statements' awake: the chapter's examples. -/
import Derived.Test.YtgfdiafeminofaaScale
namespace Go.Proofs.Ytgfdiafeminofaa
open Go.RowKit
set_option linter.unusedVariables false

theorem below_trans {w w1 w2 : World} (h1 : Below w.heap.size w w1) (h2 : Below w1.heap.size w1 w2) : Below w.heap.size w w2 := h1.trans (h2.mono h1.size)

set_option maxHeartbeats 1000000 in
theorem awake_any (w : World) : Calls Try.prog 8 #[] w fun e w' => e = .returned (.bool true) ∧ Below w.heap.size w w' := by
  go_enter Try.func8, Try.ntmps8
  go_wp2_with fail
  refine (parts_any _ _ _ ⟨by decide, by decide⟩ ⟨by decide, by decide⟩).mono ?_
  rintro e w1 ⟨rfl, hb1⟩
  rw [show quoI (-7) 2 = -4 by decide, show remI (-7) 2 = 1 by decide]
  go_wp2_with fail
  refine (half_any _ _ _ ⟨by decide, by decide⟩).mono ?_
  rintro e w2 ⟨rfl, hb2⟩
  rw [show halfI (-3) 1 = -1 by decide]
  go_wp2_with fail
  refine (half_any _ _ _ ⟨by decide, by decide⟩).mono ?_
  rintro e w3 ⟨rfl, hb3⟩
  rw [show halfI 3 1 = 2 by decide]
  go_wp2_with fail
  refine (div_any _ _ _ ⟨by decide, by decide⟩ ⟨by decide, by decide⟩).mono ?_
  rintro e w4 ⟨rfl, hb4⟩
  rw [show divI (-7) 2 = -3 by decide]
  go_wp2_with fail
  refine (scale_any _ _ _ _ ⟨by decide, by decide⟩).mono ?_
  rintro e w5 ⟨rfl, hb5⟩
  rw [show scaleI 100 16384 15 = 50 by decide]
  go_wp2
  go_ret
  exact ⟨rfl, below_trans (below_trans (below_trans (below_trans hb1 hb2) hb3) hb4) hb5⟩
end Go.Proofs.Ytgfdiafeminofaa
