/- Package front: is a front right? -/
import Derived.Test.YtbkdgpeooeokmaaDoorFrontLeaf
namespace Go.Proofs.YtbkdgpeooeokmaaDoor
open Go.RowKit
set_option linter.unusedVariables false

set_option maxRecDepth 100000 in
set_option maxHeartbeats 4000000 in
theorem right_any (s hop b c pre : Int) (w : World) :
    Calls Tryd.prog 35 #[.agg #[.int .i64 s, .int .i64 hop, .int .i64 b, .int .i64 c, .int .i64 pre]] w fun e w' => e = .returned (.bool (decide (rightF s hop b c pre))) ∧ Below w.heap.size w w' := by
  obtain ⟨v, hv⟩ : ∃ v, decide (rightF s hop b c pre) = v := ⟨_, rfl⟩
  rw [hv]
  have HV := hide hv
  clear hv
  obtain ⟨W2, hW2⟩ : ∃ W2, (w.alloc (.cells #[.int .i64 s, .int .i64 hop, .int .i64 b, .int .i64 c, .int .i64 pre] 54)).alloc (.cells #[.int .i64 s, .int .i64 hop, .int .i64 b, .int .i64 c, .int .i64 pre] 27) = W2 := ⟨_, rfl⟩
  have HW2 := hide hW2
  have s2 := hide (show W2.heap.size = w.heap.size + 1 + 1 by rw [← hW2]; simp)
  have HC := hide (show Cells W2 (w.heap.size + 1) [.int .i64 s, .int .i64 hop, .int .i64 b, .int .i64 c, .int .i64 pre] by
    rw [← hW2]
    have := cells_new (w.alloc (.cells #[.int .i64 s, .int .i64 hop, .int .i64 b, .int .i64 c, .int .i64 pre] 54)) [.int .i64 s, .int .i64 hop, .int .i64 b, .int .i64 c, .int .i64 pre] 27
    simpa using this)
  have HB2 := hide (show Below w.heap.size w W2 by rw [← hW2]; exact (alloc_below w _).alloc (by simp) _)
  clear hW2
  by_cases hs : s = 16 ∨ s = 32 ∨ s = 64
  · by_cases hb : b = 4 ∨ b = 8 ∨ b = 16
    · rcases hs with rfl | rfl | rfl
      · rcases hb with rfl | rfl | rfl
        · go_enter Tryd.func35, Tryd.ntmps35
          go_wp2_with fail
          rw [unhide HW2]
          have q2 := fun o => ((unhide HC).alloc o).cell 2 _ rfl
          have q3 := fun o => ((unhide HC).alloc o).cell 3 _ rfl
          have q4 := fun o o' => (((unhide HC).alloc o).alloc o').cell 4 _ rfl
          refine (within_one hop 1 _ (w.heap.size + 1 + 1) 1 _ (lies_new W2 [hop] (w.heap.size + 1 + 1) (unhide s2).symm)).mono ?_
          rintro e w1 ⟨rfl, rfl⟩
          by_cases c1 : 1 ≤ hop ∧ hop ≤ 16
          · rw [decide_eq_true c1]
            have C1 := hide c1
            clear c1
            go_wp2_with fail
            refine (within_one c 1 _ _ 1 _ (lies_new (W2.alloc (.cells #[.int .i64 hop] 3)) [c] _ (by simp))).mono ?_
            rintro e w1 ⟨rfl, rfl⟩
            by_cases c2 : 1 ≤ c ∧ c ≤ 4
            · rw [decide_eq_true c2]
              have C2 := hide c2
              clear c2
              go_wp2_with fail
              refine (within_one pre 0 _ _ 1 _ (lies_new ((W2.alloc (.cells #[.int .i64 hop] 3)).alloc (.cells #[.int .i64 c] 3)) [pre] _ (by simp))).mono ?_
              rintro e w1 ⟨rfl, rfl⟩
              by_cases c3 : 0 ≤ pre ∧ pre ≤ 32767
              · rw [decide_eq_true c3]
                obtain rfl : v = true := by rw [← unhide HV]; have := unhide C1; have := unhide C2; exact decide_eq_true (by unfold rightF; omega)
                clear c3
                go_wp2
                go_ret
                exact ⟨rfl, (((unhide HB2).alloc (unhide HB2).size _).alloc (by have := (unhide HB2).size; simp; omega) _).alloc (by have := (unhide HB2).size; simp; omega) _⟩
              · rw [decide_eq_false c3]
                obtain rfl : v = false := by rw [← unhide HV]; exact decide_eq_false (by unfold rightF; omega)
                clear c3
                go_wp2
                go_ret
                exact ⟨rfl, (((unhide HB2).alloc (unhide HB2).size _).alloc (by have := (unhide HB2).size; simp; omega) _).alloc (by have := (unhide HB2).size; simp; omega) _⟩
            · rw [decide_eq_false c2]
              obtain rfl : v = false := by rw [← unhide HV]; exact decide_eq_false (by unfold rightF; omega)
              clear c2
              go_wp2
              go_ret
              exact ⟨rfl, (((unhide HB2).alloc (unhide HB2).size _).alloc (by have := (unhide HB2).size; simp; omega) _)⟩
          · rw [decide_eq_false c1]
            obtain rfl : v = false := by rw [← unhide HV]; exact decide_eq_false (by unfold rightF; omega)
            clear c1
            go_wp2
            go_ret
            exact ⟨rfl, (unhide HB2).alloc (unhide HB2).size _⟩
        · go_enter Tryd.func35, Tryd.ntmps35
          go_wp2_with fail
          rw [unhide HW2]
          have q2 := fun o => ((unhide HC).alloc o).cell 2 _ rfl
          have q3 := fun o => ((unhide HC).alloc o).cell 3 _ rfl
          have q4 := fun o o' => (((unhide HC).alloc o).alloc o').cell 4 _ rfl
          refine (within_one hop 1 _ (w.heap.size + 1 + 1) 1 _ (lies_new W2 [hop] (w.heap.size + 1 + 1) (unhide s2).symm)).mono ?_
          rintro e w1 ⟨rfl, rfl⟩
          by_cases c1 : 1 ≤ hop ∧ hop ≤ 16
          · rw [decide_eq_true c1]
            have C1 := hide c1
            clear c1
            go_wp2_with fail
            refine (within_one c 1 _ _ 1 _ (lies_new (W2.alloc (.cells #[.int .i64 hop] 3)) [c] _ (by simp))).mono ?_
            rintro e w1 ⟨rfl, rfl⟩
            by_cases c2 : 1 ≤ c ∧ c ≤ 8
            · rw [decide_eq_true c2]
              have C2 := hide c2
              clear c2
              go_wp2_with fail
              refine (within_one pre 0 _ _ 1 _ (lies_new ((W2.alloc (.cells #[.int .i64 hop] 3)).alloc (.cells #[.int .i64 c] 3)) [pre] _ (by simp))).mono ?_
              rintro e w1 ⟨rfl, rfl⟩
              by_cases c3 : 0 ≤ pre ∧ pre ≤ 32767
              · rw [decide_eq_true c3]
                obtain rfl : v = true := by rw [← unhide HV]; have := unhide C1; have := unhide C2; exact decide_eq_true (by unfold rightF; omega)
                clear c3
                go_wp2
                go_ret
                exact ⟨rfl, (((unhide HB2).alloc (unhide HB2).size _).alloc (by have := (unhide HB2).size; simp; omega) _).alloc (by have := (unhide HB2).size; simp; omega) _⟩
              · rw [decide_eq_false c3]
                obtain rfl : v = false := by rw [← unhide HV]; exact decide_eq_false (by unfold rightF; omega)
                clear c3
                go_wp2
                go_ret
                exact ⟨rfl, (((unhide HB2).alloc (unhide HB2).size _).alloc (by have := (unhide HB2).size; simp; omega) _).alloc (by have := (unhide HB2).size; simp; omega) _⟩
            · rw [decide_eq_false c2]
              obtain rfl : v = false := by rw [← unhide HV]; exact decide_eq_false (by unfold rightF; omega)
              clear c2
              go_wp2
              go_ret
              exact ⟨rfl, (((unhide HB2).alloc (unhide HB2).size _).alloc (by have := (unhide HB2).size; simp; omega) _)⟩
          · rw [decide_eq_false c1]
            obtain rfl : v = false := by rw [← unhide HV]; exact decide_eq_false (by unfold rightF; omega)
            clear c1
            go_wp2
            go_ret
            exact ⟨rfl, (unhide HB2).alloc (unhide HB2).size _⟩
        · go_enter Tryd.func35, Tryd.ntmps35
          go_wp2_with fail
          rw [unhide HW2]
          have q2 := fun o => ((unhide HC).alloc o).cell 2 _ rfl
          have q3 := fun o => ((unhide HC).alloc o).cell 3 _ rfl
          have q4 := fun o o' => (((unhide HC).alloc o).alloc o').cell 4 _ rfl
          refine (within_one hop 1 _ (w.heap.size + 1 + 1) 1 _ (lies_new W2 [hop] (w.heap.size + 1 + 1) (unhide s2).symm)).mono ?_
          rintro e w1 ⟨rfl, rfl⟩
          by_cases c1 : 1 ≤ hop ∧ hop ≤ 16
          · rw [decide_eq_true c1]
            have C1 := hide c1
            clear c1
            go_wp2_with fail
            refine (within_one c 1 _ _ 1 _ (lies_new (W2.alloc (.cells #[.int .i64 hop] 3)) [c] _ (by simp))).mono ?_
            rintro e w1 ⟨rfl, rfl⟩
            by_cases c2 : 1 ≤ c ∧ c ≤ 16
            · rw [decide_eq_true c2]
              have C2 := hide c2
              clear c2
              go_wp2_with fail
              refine (within_one pre 0 _ _ 1 _ (lies_new ((W2.alloc (.cells #[.int .i64 hop] 3)).alloc (.cells #[.int .i64 c] 3)) [pre] _ (by simp))).mono ?_
              rintro e w1 ⟨rfl, rfl⟩
              by_cases c3 : 0 ≤ pre ∧ pre ≤ 32767
              · rw [decide_eq_true c3]
                obtain rfl : v = true := by rw [← unhide HV]; have := unhide C1; have := unhide C2; exact decide_eq_true (by unfold rightF; omega)
                clear c3
                go_wp2
                go_ret
                exact ⟨rfl, (((unhide HB2).alloc (unhide HB2).size _).alloc (by have := (unhide HB2).size; simp; omega) _).alloc (by have := (unhide HB2).size; simp; omega) _⟩
              · rw [decide_eq_false c3]
                obtain rfl : v = false := by rw [← unhide HV]; exact decide_eq_false (by unfold rightF; omega)
                clear c3
                go_wp2
                go_ret
                exact ⟨rfl, (((unhide HB2).alloc (unhide HB2).size _).alloc (by have := (unhide HB2).size; simp; omega) _).alloc (by have := (unhide HB2).size; simp; omega) _⟩
            · rw [decide_eq_false c2]
              obtain rfl : v = false := by rw [← unhide HV]; exact decide_eq_false (by unfold rightF; omega)
              clear c2
              go_wp2
              go_ret
              exact ⟨rfl, (((unhide HB2).alloc (unhide HB2).size _).alloc (by have := (unhide HB2).size; simp; omega) _)⟩
          · rw [decide_eq_false c1]
            obtain rfl : v = false := by rw [← unhide HV]; exact decide_eq_false (by unfold rightF; omega)
            clear c1
            go_wp2
            go_ret
            exact ⟨rfl, (unhide HB2).alloc (unhide HB2).size _⟩
      · rcases hb with rfl | rfl | rfl
        · go_enter Tryd.func35, Tryd.ntmps35
          go_wp2_with fail
          rw [unhide HW2]
          have q2 := fun o => ((unhide HC).alloc o).cell 2 _ rfl
          have q3 := fun o => ((unhide HC).alloc o).cell 3 _ rfl
          have q4 := fun o o' => (((unhide HC).alloc o).alloc o').cell 4 _ rfl
          refine (within_one hop 1 _ (w.heap.size + 1 + 1) 1 _ (lies_new W2 [hop] (w.heap.size + 1 + 1) (unhide s2).symm)).mono ?_
          rintro e w1 ⟨rfl, rfl⟩
          by_cases c1 : 1 ≤ hop ∧ hop ≤ 32
          · rw [decide_eq_true c1]
            have C1 := hide c1
            clear c1
            go_wp2_with fail
            refine (within_one c 1 _ _ 1 _ (lies_new (W2.alloc (.cells #[.int .i64 hop] 3)) [c] _ (by simp))).mono ?_
            rintro e w1 ⟨rfl, rfl⟩
            by_cases c2 : 1 ≤ c ∧ c ≤ 4
            · rw [decide_eq_true c2]
              have C2 := hide c2
              clear c2
              go_wp2_with fail
              refine (within_one pre 0 _ _ 1 _ (lies_new ((W2.alloc (.cells #[.int .i64 hop] 3)).alloc (.cells #[.int .i64 c] 3)) [pre] _ (by simp))).mono ?_
              rintro e w1 ⟨rfl, rfl⟩
              by_cases c3 : 0 ≤ pre ∧ pre ≤ 32767
              · rw [decide_eq_true c3]
                obtain rfl : v = true := by rw [← unhide HV]; have := unhide C1; have := unhide C2; exact decide_eq_true (by unfold rightF; omega)
                clear c3
                go_wp2
                go_ret
                exact ⟨rfl, (((unhide HB2).alloc (unhide HB2).size _).alloc (by have := (unhide HB2).size; simp; omega) _).alloc (by have := (unhide HB2).size; simp; omega) _⟩
              · rw [decide_eq_false c3]
                obtain rfl : v = false := by rw [← unhide HV]; exact decide_eq_false (by unfold rightF; omega)
                clear c3
                go_wp2
                go_ret
                exact ⟨rfl, (((unhide HB2).alloc (unhide HB2).size _).alloc (by have := (unhide HB2).size; simp; omega) _).alloc (by have := (unhide HB2).size; simp; omega) _⟩
            · rw [decide_eq_false c2]
              obtain rfl : v = false := by rw [← unhide HV]; exact decide_eq_false (by unfold rightF; omega)
              clear c2
              go_wp2
              go_ret
              exact ⟨rfl, (((unhide HB2).alloc (unhide HB2).size _).alloc (by have := (unhide HB2).size; simp; omega) _)⟩
          · rw [decide_eq_false c1]
            obtain rfl : v = false := by rw [← unhide HV]; exact decide_eq_false (by unfold rightF; omega)
            clear c1
            go_wp2
            go_ret
            exact ⟨rfl, (unhide HB2).alloc (unhide HB2).size _⟩
        · go_enter Tryd.func35, Tryd.ntmps35
          go_wp2_with fail
          rw [unhide HW2]
          have q2 := fun o => ((unhide HC).alloc o).cell 2 _ rfl
          have q3 := fun o => ((unhide HC).alloc o).cell 3 _ rfl
          have q4 := fun o o' => (((unhide HC).alloc o).alloc o').cell 4 _ rfl
          refine (within_one hop 1 _ (w.heap.size + 1 + 1) 1 _ (lies_new W2 [hop] (w.heap.size + 1 + 1) (unhide s2).symm)).mono ?_
          rintro e w1 ⟨rfl, rfl⟩
          by_cases c1 : 1 ≤ hop ∧ hop ≤ 32
          · rw [decide_eq_true c1]
            have C1 := hide c1
            clear c1
            go_wp2_with fail
            refine (within_one c 1 _ _ 1 _ (lies_new (W2.alloc (.cells #[.int .i64 hop] 3)) [c] _ (by simp))).mono ?_
            rintro e w1 ⟨rfl, rfl⟩
            by_cases c2 : 1 ≤ c ∧ c ≤ 8
            · rw [decide_eq_true c2]
              have C2 := hide c2
              clear c2
              go_wp2_with fail
              refine (within_one pre 0 _ _ 1 _ (lies_new ((W2.alloc (.cells #[.int .i64 hop] 3)).alloc (.cells #[.int .i64 c] 3)) [pre] _ (by simp))).mono ?_
              rintro e w1 ⟨rfl, rfl⟩
              by_cases c3 : 0 ≤ pre ∧ pre ≤ 32767
              · rw [decide_eq_true c3]
                obtain rfl : v = true := by rw [← unhide HV]; have := unhide C1; have := unhide C2; exact decide_eq_true (by unfold rightF; omega)
                clear c3
                go_wp2
                go_ret
                exact ⟨rfl, (((unhide HB2).alloc (unhide HB2).size _).alloc (by have := (unhide HB2).size; simp; omega) _).alloc (by have := (unhide HB2).size; simp; omega) _⟩
              · rw [decide_eq_false c3]
                obtain rfl : v = false := by rw [← unhide HV]; exact decide_eq_false (by unfold rightF; omega)
                clear c3
                go_wp2
                go_ret
                exact ⟨rfl, (((unhide HB2).alloc (unhide HB2).size _).alloc (by have := (unhide HB2).size; simp; omega) _).alloc (by have := (unhide HB2).size; simp; omega) _⟩
            · rw [decide_eq_false c2]
              obtain rfl : v = false := by rw [← unhide HV]; exact decide_eq_false (by unfold rightF; omega)
              clear c2
              go_wp2
              go_ret
              exact ⟨rfl, (((unhide HB2).alloc (unhide HB2).size _).alloc (by have := (unhide HB2).size; simp; omega) _)⟩
          · rw [decide_eq_false c1]
            obtain rfl : v = false := by rw [← unhide HV]; exact decide_eq_false (by unfold rightF; omega)
            clear c1
            go_wp2
            go_ret
            exact ⟨rfl, (unhide HB2).alloc (unhide HB2).size _⟩
        · go_enter Tryd.func35, Tryd.ntmps35
          go_wp2_with fail
          rw [unhide HW2]
          have q2 := fun o => ((unhide HC).alloc o).cell 2 _ rfl
          have q3 := fun o => ((unhide HC).alloc o).cell 3 _ rfl
          have q4 := fun o o' => (((unhide HC).alloc o).alloc o').cell 4 _ rfl
          refine (within_one hop 1 _ (w.heap.size + 1 + 1) 1 _ (lies_new W2 [hop] (w.heap.size + 1 + 1) (unhide s2).symm)).mono ?_
          rintro e w1 ⟨rfl, rfl⟩
          by_cases c1 : 1 ≤ hop ∧ hop ≤ 32
          · rw [decide_eq_true c1]
            have C1 := hide c1
            clear c1
            go_wp2_with fail
            refine (within_one c 1 _ _ 1 _ (lies_new (W2.alloc (.cells #[.int .i64 hop] 3)) [c] _ (by simp))).mono ?_
            rintro e w1 ⟨rfl, rfl⟩
            by_cases c2 : 1 ≤ c ∧ c ≤ 16
            · rw [decide_eq_true c2]
              have C2 := hide c2
              clear c2
              go_wp2_with fail
              refine (within_one pre 0 _ _ 1 _ (lies_new ((W2.alloc (.cells #[.int .i64 hop] 3)).alloc (.cells #[.int .i64 c] 3)) [pre] _ (by simp))).mono ?_
              rintro e w1 ⟨rfl, rfl⟩
              by_cases c3 : 0 ≤ pre ∧ pre ≤ 32767
              · rw [decide_eq_true c3]
                obtain rfl : v = true := by rw [← unhide HV]; have := unhide C1; have := unhide C2; exact decide_eq_true (by unfold rightF; omega)
                clear c3
                go_wp2
                go_ret
                exact ⟨rfl, (((unhide HB2).alloc (unhide HB2).size _).alloc (by have := (unhide HB2).size; simp; omega) _).alloc (by have := (unhide HB2).size; simp; omega) _⟩
              · rw [decide_eq_false c3]
                obtain rfl : v = false := by rw [← unhide HV]; exact decide_eq_false (by unfold rightF; omega)
                clear c3
                go_wp2
                go_ret
                exact ⟨rfl, (((unhide HB2).alloc (unhide HB2).size _).alloc (by have := (unhide HB2).size; simp; omega) _).alloc (by have := (unhide HB2).size; simp; omega) _⟩
            · rw [decide_eq_false c2]
              obtain rfl : v = false := by rw [← unhide HV]; exact decide_eq_false (by unfold rightF; omega)
              clear c2
              go_wp2
              go_ret
              exact ⟨rfl, (((unhide HB2).alloc (unhide HB2).size _).alloc (by have := (unhide HB2).size; simp; omega) _)⟩
          · rw [decide_eq_false c1]
            obtain rfl : v = false := by rw [← unhide HV]; exact decide_eq_false (by unfold rightF; omega)
            clear c1
            go_wp2
            go_ret
            exact ⟨rfl, (unhide HB2).alloc (unhide HB2).size _⟩
      · rcases hb with rfl | rfl | rfl
        · go_enter Tryd.func35, Tryd.ntmps35
          go_wp2_with fail
          rw [unhide HW2]
          have q2 := fun o => ((unhide HC).alloc o).cell 2 _ rfl
          have q3 := fun o => ((unhide HC).alloc o).cell 3 _ rfl
          have q4 := fun o o' => (((unhide HC).alloc o).alloc o').cell 4 _ rfl
          refine (within_one hop 1 _ (w.heap.size + 1 + 1) 1 _ (lies_new W2 [hop] (w.heap.size + 1 + 1) (unhide s2).symm)).mono ?_
          rintro e w1 ⟨rfl, rfl⟩
          by_cases c1 : 1 ≤ hop ∧ hop ≤ 64
          · rw [decide_eq_true c1]
            have C1 := hide c1
            clear c1
            go_wp2_with fail
            refine (within_one c 1 _ _ 1 _ (lies_new (W2.alloc (.cells #[.int .i64 hop] 3)) [c] _ (by simp))).mono ?_
            rintro e w1 ⟨rfl, rfl⟩
            by_cases c2 : 1 ≤ c ∧ c ≤ 4
            · rw [decide_eq_true c2]
              have C2 := hide c2
              clear c2
              go_wp2_with fail
              refine (within_one pre 0 _ _ 1 _ (lies_new ((W2.alloc (.cells #[.int .i64 hop] 3)).alloc (.cells #[.int .i64 c] 3)) [pre] _ (by simp))).mono ?_
              rintro e w1 ⟨rfl, rfl⟩
              by_cases c3 : 0 ≤ pre ∧ pre ≤ 32767
              · rw [decide_eq_true c3]
                obtain rfl : v = true := by rw [← unhide HV]; have := unhide C1; have := unhide C2; exact decide_eq_true (by unfold rightF; omega)
                clear c3
                go_wp2
                go_ret
                exact ⟨rfl, (((unhide HB2).alloc (unhide HB2).size _).alloc (by have := (unhide HB2).size; simp; omega) _).alloc (by have := (unhide HB2).size; simp; omega) _⟩
              · rw [decide_eq_false c3]
                obtain rfl : v = false := by rw [← unhide HV]; exact decide_eq_false (by unfold rightF; omega)
                clear c3
                go_wp2
                go_ret
                exact ⟨rfl, (((unhide HB2).alloc (unhide HB2).size _).alloc (by have := (unhide HB2).size; simp; omega) _).alloc (by have := (unhide HB2).size; simp; omega) _⟩
            · rw [decide_eq_false c2]
              obtain rfl : v = false := by rw [← unhide HV]; exact decide_eq_false (by unfold rightF; omega)
              clear c2
              go_wp2
              go_ret
              exact ⟨rfl, (((unhide HB2).alloc (unhide HB2).size _).alloc (by have := (unhide HB2).size; simp; omega) _)⟩
          · rw [decide_eq_false c1]
            obtain rfl : v = false := by rw [← unhide HV]; exact decide_eq_false (by unfold rightF; omega)
            clear c1
            go_wp2
            go_ret
            exact ⟨rfl, (unhide HB2).alloc (unhide HB2).size _⟩
        · go_enter Tryd.func35, Tryd.ntmps35
          go_wp2_with fail
          rw [unhide HW2]
          have q2 := fun o => ((unhide HC).alloc o).cell 2 _ rfl
          have q3 := fun o => ((unhide HC).alloc o).cell 3 _ rfl
          have q4 := fun o o' => (((unhide HC).alloc o).alloc o').cell 4 _ rfl
          refine (within_one hop 1 _ (w.heap.size + 1 + 1) 1 _ (lies_new W2 [hop] (w.heap.size + 1 + 1) (unhide s2).symm)).mono ?_
          rintro e w1 ⟨rfl, rfl⟩
          by_cases c1 : 1 ≤ hop ∧ hop ≤ 64
          · rw [decide_eq_true c1]
            have C1 := hide c1
            clear c1
            go_wp2_with fail
            refine (within_one c 1 _ _ 1 _ (lies_new (W2.alloc (.cells #[.int .i64 hop] 3)) [c] _ (by simp))).mono ?_
            rintro e w1 ⟨rfl, rfl⟩
            by_cases c2 : 1 ≤ c ∧ c ≤ 8
            · rw [decide_eq_true c2]
              have C2 := hide c2
              clear c2
              go_wp2_with fail
              refine (within_one pre 0 _ _ 1 _ (lies_new ((W2.alloc (.cells #[.int .i64 hop] 3)).alloc (.cells #[.int .i64 c] 3)) [pre] _ (by simp))).mono ?_
              rintro e w1 ⟨rfl, rfl⟩
              by_cases c3 : 0 ≤ pre ∧ pre ≤ 32767
              · rw [decide_eq_true c3]
                obtain rfl : v = true := by rw [← unhide HV]; have := unhide C1; have := unhide C2; exact decide_eq_true (by unfold rightF; omega)
                clear c3
                go_wp2
                go_ret
                exact ⟨rfl, (((unhide HB2).alloc (unhide HB2).size _).alloc (by have := (unhide HB2).size; simp; omega) _).alloc (by have := (unhide HB2).size; simp; omega) _⟩
              · rw [decide_eq_false c3]
                obtain rfl : v = false := by rw [← unhide HV]; exact decide_eq_false (by unfold rightF; omega)
                clear c3
                go_wp2
                go_ret
                exact ⟨rfl, (((unhide HB2).alloc (unhide HB2).size _).alloc (by have := (unhide HB2).size; simp; omega) _).alloc (by have := (unhide HB2).size; simp; omega) _⟩
            · rw [decide_eq_false c2]
              obtain rfl : v = false := by rw [← unhide HV]; exact decide_eq_false (by unfold rightF; omega)
              clear c2
              go_wp2
              go_ret
              exact ⟨rfl, (((unhide HB2).alloc (unhide HB2).size _).alloc (by have := (unhide HB2).size; simp; omega) _)⟩
          · rw [decide_eq_false c1]
            obtain rfl : v = false := by rw [← unhide HV]; exact decide_eq_false (by unfold rightF; omega)
            clear c1
            go_wp2
            go_ret
            exact ⟨rfl, (unhide HB2).alloc (unhide HB2).size _⟩
        · go_enter Tryd.func35, Tryd.ntmps35
          go_wp2_with fail
          rw [unhide HW2]
          have q2 := fun o => ((unhide HC).alloc o).cell 2 _ rfl
          have q3 := fun o => ((unhide HC).alloc o).cell 3 _ rfl
          have q4 := fun o o' => (((unhide HC).alloc o).alloc o').cell 4 _ rfl
          refine (within_one hop 1 _ (w.heap.size + 1 + 1) 1 _ (lies_new W2 [hop] (w.heap.size + 1 + 1) (unhide s2).symm)).mono ?_
          rintro e w1 ⟨rfl, rfl⟩
          by_cases c1 : 1 ≤ hop ∧ hop ≤ 64
          · rw [decide_eq_true c1]
            have C1 := hide c1
            clear c1
            go_wp2_with fail
            refine (within_one c 1 _ _ 1 _ (lies_new (W2.alloc (.cells #[.int .i64 hop] 3)) [c] _ (by simp))).mono ?_
            rintro e w1 ⟨rfl, rfl⟩
            by_cases c2 : 1 ≤ c ∧ c ≤ 16
            · rw [decide_eq_true c2]
              have C2 := hide c2
              clear c2
              go_wp2_with fail
              refine (within_one pre 0 _ _ 1 _ (lies_new ((W2.alloc (.cells #[.int .i64 hop] 3)).alloc (.cells #[.int .i64 c] 3)) [pre] _ (by simp))).mono ?_
              rintro e w1 ⟨rfl, rfl⟩
              by_cases c3 : 0 ≤ pre ∧ pre ≤ 32767
              · rw [decide_eq_true c3]
                obtain rfl : v = true := by rw [← unhide HV]; have := unhide C1; have := unhide C2; exact decide_eq_true (by unfold rightF; omega)
                clear c3
                go_wp2
                go_ret
                exact ⟨rfl, (((unhide HB2).alloc (unhide HB2).size _).alloc (by have := (unhide HB2).size; simp; omega) _).alloc (by have := (unhide HB2).size; simp; omega) _⟩
              · rw [decide_eq_false c3]
                obtain rfl : v = false := by rw [← unhide HV]; exact decide_eq_false (by unfold rightF; omega)
                clear c3
                go_wp2
                go_ret
                exact ⟨rfl, (((unhide HB2).alloc (unhide HB2).size _).alloc (by have := (unhide HB2).size; simp; omega) _).alloc (by have := (unhide HB2).size; simp; omega) _⟩
            · rw [decide_eq_false c2]
              obtain rfl : v = false := by rw [← unhide HV]; exact decide_eq_false (by unfold rightF; omega)
              clear c2
              go_wp2
              go_ret
              exact ⟨rfl, (((unhide HB2).alloc (unhide HB2).size _).alloc (by have := (unhide HB2).size; simp; omega) _)⟩
          · rw [decide_eq_false c1]
            obtain rfl : v = false := by rw [← unhide HV]; exact decide_eq_false (by unfold rightF; omega)
            clear c1
            go_wp2
            go_ret
            exact ⟨rfl, (unhide HB2).alloc (unhide HB2).size _⟩
    · have h1 : ¬ b = 4 := fun e => hb (.inl e)
      have h2 : ¬ b = 8 := fun e => hb (.inr (.inl e))
      have h3 : ¬ b = 16 := fun e => hb (.inr (.inr e))
      obtain rfl : v = false := by rw [← unhide HV]; exact decide_eq_false (by unfold rightF; omega)
      clear hb
      rcases hs with rfl | rfl | rfl
      all_goals (
        go_enter Tryd.func35, Tryd.ntmps35
        go_wp2
        rw [unhide HW2]
        go_ret
        exact ⟨rfl, unhide HB2⟩)
  · have h1 : ¬ s = 16 := fun e => hs (.inl e)
    have h2 : ¬ s = 32 := fun e => hs (.inr (.inl e))
    have h3 : ¬ s = 64 := fun e => hs (.inr (.inr e))
    obtain rfl : v = false := by rw [← unhide HV]; exact decide_eq_false (by unfold rightF; omega)
    clear hs
    go_enter Tryd.func35, Tryd.ntmps35
    go_wp2
    rw [unhide HW2]
    go_ret
    exact ⟨rfl, unhide HB2⟩
end Go.Proofs.YtbkdgpeooeokmaaDoor
