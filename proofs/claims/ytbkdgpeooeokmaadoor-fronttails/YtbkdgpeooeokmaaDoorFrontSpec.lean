/- A right front of plain numbers. -/
import Derived.Test.YtbkdgpeooeokmaaDoorFrontLaw
namespace Go.Proofs.YtbkdgpeooeokmaaDoor
open Go.RowKit
set_option linter.unusedVariables false

set_option maxHeartbeats 800000 in
theorem spec_ff (hop coefs pre : Int) (i j : Nat) (hib : bits .and .i64 hop 15 = (i : Int)) (hi : i < 16) (hjb : bits .and .i64 coefs 3 = (j : Int)) (hj : j < 4) (w : World) :
    Calls Tryd.prog 8 #[.agg #[.int .i64 hop, .int .i64 coefs, .int .i64 pre, .bool false, .bool false]] w fun e w' => e = .returned (.agg #[.int .i64 16, .int .i64 (1 + (i : Int)), .int .i64 4, .int .i64 (1 + (j : Int)), .int .i64 (pre % 32768)]) ∧ Below w.heap.size w w' := by
  have hpre := i64_mask pre 32767 15 (by decide) (by decide)
  have hiw : wrap64 (1 + (i : Int)) = 1 + (i : Int) := w64_in ⟨by omega, by omega⟩
  have hjw : wrap64 (1 + (j : Int)) = 1 + (j : Int) := w64_in ⟨by omega, by omega⟩
  go_enter Tryd.func8, Tryd.ntmps8
  go_wp2_with fail
  obtain ⟨W1, hW1⟩ : ∃ W1, w.alloc (.cells #[.int .i64 hop, .int .i64 coefs, .int .i64 pre, .bool false, .bool false] 23) = W1 := ⟨_, rfl⟩
  have s1 : W1.heap.size = w.heap.size + 1 := by rw [← hW1]; simp
  have B1 : Below w.heap.size w W1 := by rw [← hW1]; exact alloc_below w _
  obtain ⟨W2, hW2⟩ : ∃ W2, W1.alloc (.cells #[.int .i64 16, .int .i64 (1 + (i : Int)), .int .i64 4, .int .i64 (1 + (j : Int)), .int .i64 (pre % 32768)] 27) = W2 := ⟨_, rfl⟩
  have c2 : Cells W2 (w.heap.size + 1) [.int .i64 16, .int .i64 (1 + (i : Int)), .int .i64 4, .int .i64 (1 + (j : Int)), .int .i64 (pre % 32768)] := by rw [← hW2, ← s1]; exact cells_new W1 [.int .i64 16, .int .i64 (1 + (i : Int)), .int .i64 4, .int .i64 (1 + (j : Int)), .int .i64 (pre % 32768)] _
  have B2 : Below w.heap.size w W2 := below_trans B1 (by rw [← hW2]; exact alloc_below W1 _)
  obtain ⟨W3, hW3⟩ : ∃ W3, W2.alloc (.cells #[.int .i64 16, .int .i64 (1 + (i : Int)), .int .i64 4, .int .i64 (1 + (j : Int)), .int .i64 (pre % 32768)] 27) = W3 := ⟨_, rfl⟩
  have c3 : Cells W3 (w.heap.size + 1) [.int .i64 16, .int .i64 (1 + (i : Int)), .int .i64 4, .int .i64 (1 + (j : Int)), .int .i64 (pre % 32768)] := by rw [← hW3]; exact c2.alloc _
  have HB3 := hide (show Below w.heap.size w W3 from below_trans B2 (by rw [← hW3]; exact alloc_below W2 _))
  rw [hW1, hW2, hW3]
  have r0 := c3.cell 0 _ rfl
  have r1 := c3.cell 1 _ rfl
  have r2 := c3.cell 2 _ rfl
  have r3 := c3.cell 3 _ rfl
  have r4 := c3.cell 4 _ rfl
  clear hW1 hW2 hW3 s1 B1 c2 B2 c3 hpre hiw hjw hib hjb
  refine bodyPost_ret (v := .agg #[.int .i64 16, .int .i64 (1 + (i : Int)), .int .i64 4, .int .i64 (1 + (j : Int)), .int .i64 (pre % 32768)]) (by simp [results, Tryd.results8, go_sem, r0, r1, r2, r3, r4]) rfl ?_
  exact ⟨rfl, unhide HB3⟩
set_option maxHeartbeats 800000 in
theorem spec_ft (hop coefs pre : Int) (i j : Nat) (hib : bits .and .i64 hop 15 = (i : Int)) (hi : i < 16) (hjb : bits .and .i64 coefs 7 = (j : Int)) (hj : j < 8) (w : World) :
    Calls Tryd.prog 8 #[.agg #[.int .i64 hop, .int .i64 coefs, .int .i64 pre, .bool false, .bool true]] w fun e w' => e = .returned (.agg #[.int .i64 16, .int .i64 (1 + (i : Int)), .int .i64 8, .int .i64 (1 + (j : Int)), .int .i64 (pre % 32768)]) ∧ Below w.heap.size w w' := by
  have hpre := i64_mask pre 32767 15 (by decide) (by decide)
  have hiw : wrap64 (1 + (i : Int)) = 1 + (i : Int) := w64_in ⟨by omega, by omega⟩
  have hjw : wrap64 (1 + (j : Int)) = 1 + (j : Int) := w64_in ⟨by omega, by omega⟩
  go_enter Tryd.func8, Tryd.ntmps8
  go_wp2_with fail
  obtain ⟨W1, hW1⟩ : ∃ W1, w.alloc (.cells #[.int .i64 hop, .int .i64 coefs, .int .i64 pre, .bool false, .bool true] 23) = W1 := ⟨_, rfl⟩
  have s1 : W1.heap.size = w.heap.size + 1 := by rw [← hW1]; simp
  have B1 : Below w.heap.size w W1 := by rw [← hW1]; exact alloc_below w _
  obtain ⟨W2, hW2⟩ : ∃ W2, W1.alloc (.cells #[.int .i64 16, .int .i64 (1 + (i : Int)), .int .i64 8, .int .i64 (1 + (j : Int)), .int .i64 (pre % 32768)] 27) = W2 := ⟨_, rfl⟩
  have c2 : Cells W2 (w.heap.size + 1) [.int .i64 16, .int .i64 (1 + (i : Int)), .int .i64 8, .int .i64 (1 + (j : Int)), .int .i64 (pre % 32768)] := by rw [← hW2, ← s1]; exact cells_new W1 [.int .i64 16, .int .i64 (1 + (i : Int)), .int .i64 8, .int .i64 (1 + (j : Int)), .int .i64 (pre % 32768)] _
  have B2 : Below w.heap.size w W2 := below_trans B1 (by rw [← hW2]; exact alloc_below W1 _)
  obtain ⟨W3, hW3⟩ : ∃ W3, W2.alloc (.cells #[.int .i64 16, .int .i64 (1 + (i : Int)), .int .i64 8, .int .i64 (1 + (j : Int)), .int .i64 (pre % 32768)] 27) = W3 := ⟨_, rfl⟩
  have c3 : Cells W3 (w.heap.size + 1) [.int .i64 16, .int .i64 (1 + (i : Int)), .int .i64 8, .int .i64 (1 + (j : Int)), .int .i64 (pre % 32768)] := by rw [← hW3]; exact c2.alloc _
  have HB3 := hide (show Below w.heap.size w W3 from below_trans B2 (by rw [← hW3]; exact alloc_below W2 _))
  rw [hW1, hW2, hW3]
  have r0 := c3.cell 0 _ rfl
  have r1 := c3.cell 1 _ rfl
  have r2 := c3.cell 2 _ rfl
  have r3 := c3.cell 3 _ rfl
  have r4 := c3.cell 4 _ rfl
  clear hW1 hW2 hW3 s1 B1 c2 B2 c3 hpre hiw hjw hib hjb
  refine bodyPost_ret (v := .agg #[.int .i64 16, .int .i64 (1 + (i : Int)), .int .i64 8, .int .i64 (1 + (j : Int)), .int .i64 (pre % 32768)]) (by simp [results, Tryd.results8, go_sem, r0, r1, r2, r3, r4]) rfl ?_
  exact ⟨rfl, unhide HB3⟩
set_option maxHeartbeats 800000 in
theorem spec_tf (hop coefs pre : Int) (i j : Nat) (hib : bits .and .i64 hop 31 = (i : Int)) (hi : i < 32) (hjb : bits .and .i64 coefs 3 = (j : Int)) (hj : j < 4) (w : World) :
    Calls Tryd.prog 8 #[.agg #[.int .i64 hop, .int .i64 coefs, .int .i64 pre, .bool true, .bool false]] w fun e w' => e = .returned (.agg #[.int .i64 32, .int .i64 (1 + (i : Int)), .int .i64 4, .int .i64 (1 + (j : Int)), .int .i64 (pre % 32768)]) ∧ Below w.heap.size w w' := by
  have hpre := i64_mask pre 32767 15 (by decide) (by decide)
  have hiw : wrap64 (1 + (i : Int)) = 1 + (i : Int) := w64_in ⟨by omega, by omega⟩
  have hjw : wrap64 (1 + (j : Int)) = 1 + (j : Int) := w64_in ⟨by omega, by omega⟩
  go_enter Tryd.func8, Tryd.ntmps8
  go_wp2_with fail
  obtain ⟨W1, hW1⟩ : ∃ W1, w.alloc (.cells #[.int .i64 hop, .int .i64 coefs, .int .i64 pre, .bool true, .bool false] 23) = W1 := ⟨_, rfl⟩
  have s1 : W1.heap.size = w.heap.size + 1 := by rw [← hW1]; simp
  have B1 : Below w.heap.size w W1 := by rw [← hW1]; exact alloc_below w _
  obtain ⟨W2, hW2⟩ : ∃ W2, W1.alloc (.cells #[.int .i64 32, .int .i64 (1 + (i : Int)), .int .i64 4, .int .i64 (1 + (j : Int)), .int .i64 (pre % 32768)] 27) = W2 := ⟨_, rfl⟩
  have c2 : Cells W2 (w.heap.size + 1) [.int .i64 32, .int .i64 (1 + (i : Int)), .int .i64 4, .int .i64 (1 + (j : Int)), .int .i64 (pre % 32768)] := by rw [← hW2, ← s1]; exact cells_new W1 [.int .i64 32, .int .i64 (1 + (i : Int)), .int .i64 4, .int .i64 (1 + (j : Int)), .int .i64 (pre % 32768)] _
  have B2 : Below w.heap.size w W2 := below_trans B1 (by rw [← hW2]; exact alloc_below W1 _)
  obtain ⟨W3, hW3⟩ : ∃ W3, W2.alloc (.cells #[.int .i64 32, .int .i64 (1 + (i : Int)), .int .i64 4, .int .i64 (1 + (j : Int)), .int .i64 (pre % 32768)] 27) = W3 := ⟨_, rfl⟩
  have c3 : Cells W3 (w.heap.size + 1) [.int .i64 32, .int .i64 (1 + (i : Int)), .int .i64 4, .int .i64 (1 + (j : Int)), .int .i64 (pre % 32768)] := by rw [← hW3]; exact c2.alloc _
  have HB3 := hide (show Below w.heap.size w W3 from below_trans B2 (by rw [← hW3]; exact alloc_below W2 _))
  rw [hW1, hW2, hW3]
  have r0 := c3.cell 0 _ rfl
  have r1 := c3.cell 1 _ rfl
  have r2 := c3.cell 2 _ rfl
  have r3 := c3.cell 3 _ rfl
  have r4 := c3.cell 4 _ rfl
  clear hW1 hW2 hW3 s1 B1 c2 B2 c3 hpre hiw hjw hib hjb
  refine bodyPost_ret (v := .agg #[.int .i64 32, .int .i64 (1 + (i : Int)), .int .i64 4, .int .i64 (1 + (j : Int)), .int .i64 (pre % 32768)]) (by simp [results, Tryd.results8, go_sem, r0, r1, r2, r3, r4]) rfl ?_
  exact ⟨rfl, unhide HB3⟩
set_option maxHeartbeats 800000 in
theorem spec_tt (hop coefs pre : Int) (i j : Nat) (hib : bits .and .i64 hop 31 = (i : Int)) (hi : i < 32) (hjb : bits .and .i64 coefs 7 = (j : Int)) (hj : j < 8) (w : World) :
    Calls Tryd.prog 8 #[.agg #[.int .i64 hop, .int .i64 coefs, .int .i64 pre, .bool true, .bool true]] w fun e w' => e = .returned (.agg #[.int .i64 32, .int .i64 (1 + (i : Int)), .int .i64 8, .int .i64 (1 + (j : Int)), .int .i64 (pre % 32768)]) ∧ Below w.heap.size w w' := by
  have hpre := i64_mask pre 32767 15 (by decide) (by decide)
  have hiw : wrap64 (1 + (i : Int)) = 1 + (i : Int) := w64_in ⟨by omega, by omega⟩
  have hjw : wrap64 (1 + (j : Int)) = 1 + (j : Int) := w64_in ⟨by omega, by omega⟩
  go_enter Tryd.func8, Tryd.ntmps8
  go_wp2_with fail
  obtain ⟨W1, hW1⟩ : ∃ W1, w.alloc (.cells #[.int .i64 hop, .int .i64 coefs, .int .i64 pre, .bool true, .bool true] 23) = W1 := ⟨_, rfl⟩
  have s1 : W1.heap.size = w.heap.size + 1 := by rw [← hW1]; simp
  have B1 : Below w.heap.size w W1 := by rw [← hW1]; exact alloc_below w _
  obtain ⟨W2, hW2⟩ : ∃ W2, W1.alloc (.cells #[.int .i64 32, .int .i64 (1 + (i : Int)), .int .i64 8, .int .i64 (1 + (j : Int)), .int .i64 (pre % 32768)] 27) = W2 := ⟨_, rfl⟩
  have c2 : Cells W2 (w.heap.size + 1) [.int .i64 32, .int .i64 (1 + (i : Int)), .int .i64 8, .int .i64 (1 + (j : Int)), .int .i64 (pre % 32768)] := by rw [← hW2, ← s1]; exact cells_new W1 [.int .i64 32, .int .i64 (1 + (i : Int)), .int .i64 8, .int .i64 (1 + (j : Int)), .int .i64 (pre % 32768)] _
  have B2 : Below w.heap.size w W2 := below_trans B1 (by rw [← hW2]; exact alloc_below W1 _)
  obtain ⟨W3, hW3⟩ : ∃ W3, W2.alloc (.cells #[.int .i64 32, .int .i64 (1 + (i : Int)), .int .i64 8, .int .i64 (1 + (j : Int)), .int .i64 (pre % 32768)] 27) = W3 := ⟨_, rfl⟩
  have c3 : Cells W3 (w.heap.size + 1) [.int .i64 32, .int .i64 (1 + (i : Int)), .int .i64 8, .int .i64 (1 + (j : Int)), .int .i64 (pre % 32768)] := by rw [← hW3]; exact c2.alloc _
  have HB3 := hide (show Below w.heap.size w W3 from below_trans B2 (by rw [← hW3]; exact alloc_below W2 _))
  rw [hW1, hW2, hW3]
  have r0 := c3.cell 0 _ rfl
  have r1 := c3.cell 1 _ rfl
  have r2 := c3.cell 2 _ rfl
  have r3 := c3.cell 3 _ rfl
  have r4 := c3.cell 4 _ rfl
  clear hW1 hW2 hW3 s1 B1 c2 B2 c3 hpre hiw hjw hib hjb
  refine bodyPost_ret (v := .agg #[.int .i64 32, .int .i64 (1 + (i : Int)), .int .i64 8, .int .i64 (1 + (j : Int)), .int .i64 (pre % 32768)]) (by simp [results, Tryd.results8, go_sem, r0, r1, r2, r3, r4]) rfl ?_
  exact ⟨rfl, unhide HB3⟩
theorem spec_any (hop coefs pre : Int) (wide many : Bool) : ∃ (n p B C : Nat) (r : Int), Spc n p B C r ∧ ∀ w, Calls Tryd.prog 8 #[.agg #[.int .i64 hop, .int .i64 coefs, .int .i64 pre, .bool wide, .bool many]] w fun e w' => e = .returned (.agg #[.int .i64 (n : Int), .int .i64 (p : Int), .int .i64 (B : Int), .int .i64 (C : Int), .int .i64 r]) ∧ Below w.heap.size w w' := by
  cases wide <;> cases many
  · obtain ⟨i, hi, hib⟩ := and_pow hop 16 (by decide)
    obtain ⟨j, hj, hjb⟩ := and_pow coefs 4 (by decide)
    refine ⟨16, i + 1, 4, j + 1, pre % 32768, ⟨by decide, by omega, by omega, by decide, by omega, by omega, by omega, by omega⟩, fun w => ?_⟩
    have h := spec_ff hop coefs pre i j hib hi hjb hj w
    rw [show ((i + 1 : Nat) : Int) = 1 + (i : Int) by omega, show ((j + 1 : Nat) : Int) = 1 + (j : Int) by omega]
    exact h
  · obtain ⟨i, hi, hib⟩ := and_pow hop 16 (by decide)
    obtain ⟨j, hj, hjb⟩ := and_pow coefs 8 (by decide)
    refine ⟨16, i + 1, 8, j + 1, pre % 32768, ⟨by decide, by omega, by omega, by decide, by omega, by omega, by omega, by omega⟩, fun w => ?_⟩
    have h := spec_ft hop coefs pre i j hib hi hjb hj w
    rw [show ((i + 1 : Nat) : Int) = 1 + (i : Int) by omega, show ((j + 1 : Nat) : Int) = 1 + (j : Int) by omega]
    exact h
  · obtain ⟨i, hi, hib⟩ := and_pow hop 32 (by decide)
    obtain ⟨j, hj, hjb⟩ := and_pow coefs 4 (by decide)
    refine ⟨32, i + 1, 4, j + 1, pre % 32768, ⟨by decide, by omega, by omega, by decide, by omega, by omega, by omega, by omega⟩, fun w => ?_⟩
    have h := spec_tf hop coefs pre i j hib hi hjb hj w
    rw [show ((i + 1 : Nat) : Int) = 1 + (i : Int) by omega, show ((j + 1 : Nat) : Int) = 1 + (j : Int) by omega]
    exact h
  · obtain ⟨i, hi, hib⟩ := and_pow hop 32 (by decide)
    obtain ⟨j, hj, hjb⟩ := and_pow coefs 8 (by decide)
    refine ⟨32, i + 1, 8, j + 1, pre % 32768, ⟨by decide, by omega, by omega, by decide, by omega, by omega, by omega, by omega⟩, fun w => ?_⟩
    have h := spec_tt hop coefs pre i j hib hi hjb hj w
    rw [show ((i + 1 : Nat) : Int) = 1 + (i : Int) by omega, show ((j + 1 : Nat) : Int) = 1 + (j : Int) by omega]
    exact h
end Go.Proofs.YtbkdgpeooeokmaaDoor
