/- The chapter's examples: awake returns true. -/
import Derived.Test.YtcnpbkgnoeoccaaDoorSized
namespace Go.Proofs.YtcnpbkgnoeoccaaDoor
open Go.RowKit
set_option linter.unusedVariables false

theorem alloc_below (w : World) (o : Obj) : Below w.heap.size w (w.alloc o) := (Below.refl _ w).alloc (Nat.le_refl _) o
theorem wake_turn : turnL [1, 2, 3, 4] 1 = [-4, 1, 2, 3] := by decide +kernel
theorem wake_real : partI cosC [0, 1] = 0 := by decide +kernel
theorem wake_imag : partI sinC [0, 1] = -16384 := by decide +kernel
theorem small4 : Small [1, 2, 3, 4] := by intro x hx; simp at hx; unfold In64; omega
theorem small2 : Small [0, 1] := by intro x hx; simp at hx; unfold In64; omega

set_option maxRecDepth 100000 in
theorem awake_any (w : World) (hq : Quar w) : Calls Tryd.prog 8 #[] w fun e w' => e = .returned (.bool true) ∧ Below w.heap.size w w' := by
  have HQ := hide hq
  clear hq
  go_enter Tryd.func8, Tryd.ntmps8
  go_wp2_with fail
  refine (turn_told (some ⟨w.heap.size, 0, none⟩) 4 [1, 2, 3, 4] 4 1 _ (lies_new w [1, 2, 3, 4] _ rfl) small4 rfl (by decide) (by constructor <;> decide)).mono ?_
  rintro e w1 ⟨a, l, c, rfl, h1, h2, h3⟩
  rw [wake_turn] at h1 h2
  obtain rfl : l = 4 := h1.symm
  have H2 := hide h2
  have HB1 := hide ((alloc_below w (.cells #[.int .i64 1, .int .i64 2, .int .i64 3, .int .i64 4] 3)).trans (h3.mono (by simp)))
  clear h1 h2 h3
  have HQ1 := hide ((unhide HQ).below (unhide HB1))
  clear HQ
  go_wp2_with fail
  refine (same_any a (some ⟨w1.heap.size, 0, none⟩) c 4 [-4, 1, 2, 3] 4 rfl (by decide) _ ((unhide H2).below (alloc_below _ _)) (lies_new w1 [-4, 1, 2, 3] _ rfl)).mono ?_
  rintro e w2 ⟨rfl, h3⟩
  have hb := (alloc_below w1 (.cells #[.int .i64 (-4), .int .i64 1, .int .i64 2, .int .i64 3] 3)).trans (h3.mono (by simp))
  have HB2 := hide (below_trans (unhide HB1) hb)
  have HQ2 := hide ((unhide HQ1).below hb)
  clear h3 hb HB1 HQ1 H2
  go_wp2_with fail
  refine (real_any (some ⟨w2.heap.size, 0, none⟩) 2 2 [0, 1] _ (lies_new w2 [0, 1] _ rfl) small2 rfl ((unhide HQ2).below (alloc_below _ _))).mono ?_
  rintro e w3 ⟨rfl, h3⟩
  rw [wake_real]
  have hb := (alloc_below w2 (.cells #[.int .i64 0, .int .i64 1] 3)).trans (h3.mono (by simp))
  have HB3 := hide (below_trans (unhide HB2) hb)
  have HQ3 := hide ((unhide HQ2).below hb)
  clear h3 hb HB2 HQ2
  go_wp2_with fail
  refine (imag_any (some ⟨w3.heap.size, 0, none⟩) 2 2 [0, 1] _ (lies_new w3 [0, 1] _ rfl) small2 rfl ((unhide HQ3).below (alloc_below _ _))).mono ?_
  rintro e w4 ⟨rfl, h3⟩
  rw [wake_imag]
  have hb := (alloc_below w3 (.cells #[.int .i64 0, .int .i64 1] 3)).trans (h3.mono (by simp))
  have HB4 := hide (below_trans (unhide HB3) hb)
  clear h3 hb HB3 HQ3
  go_wp2
  go_ret
  exact ⟨rfl, unhide HB4⟩

theorem told_len {xs : List Int} {w w' : World} {e : Ending} (h : Told xs w e w') {n : Nat} (hn : xs.length = n) : ∃ a c, e = .returned (.slice a n c) ∧ Lies w' a xs ∧ Below w.heap.size w w' := by
  obtain ⟨a, l, c, rfl, h1, h2, h3⟩ := h
  exact ⟨a, c, by rw [← h1, hn], h2, h3⟩
end Go.Proofs.YtcnpbkgnoeoccaaDoor
