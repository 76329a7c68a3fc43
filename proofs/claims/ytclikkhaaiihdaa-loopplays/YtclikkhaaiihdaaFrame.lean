/- The frame that LoopPlays pushes. -/
import Derived.Test.YtclikkhaaiihdaaRget
namespace Go.Proofs.Ytclikkhaaiihdaa
open Go.RowKit
set_option linter.unusedVariables false

set_option maxRecDepth 100000 in
set_option maxHeartbeats 4000000 in
theorem frame_any (k n : Int) (far odd : Bool) (d M : Nat) (hd : d ≤ 4096) (hM : (M : Int) = (if odd then (d : Int) + 1 else (d : Int))) (w : World) :
    Calls Try.prog 18 #[.agg #[.int .i64 k, .int .i64 n, .bool far, .bool odd], .int .i64 (d : Int)] w fun r w' => ∃ a cap xs, r = .returned (.slice a M cap) ∧ Lies w' a xs ∧ xs.length = M ∧ (∀ p, a = some p → w.heap.size ≤ p.block) ∧ Below w.heap.size w w' := by
  obtain ⟨i0, hi, hz0, hz1, hz2⟩ := info_parts Try.info3
  have HI : Hid (Try.prog.info? 3 = some i0 ∧ i0.zero = some (.int .i64 0) ∧ i0.size = 1 ∧ i0.bytes = 8) := ⟨hi, hz0, hz1, hz2⟩
  clear hi hz0 hz1 hz2
  have hMb : M ≤ 4097 := by split at hM <;> omega
  obtain ⟨w1, hw1⟩ : ∃ w1, w1 = w.alloc (.cells #[.int .i64 k, .int .i64 n, .bool far, .bool odd] 33) := ⟨_, rfl⟩
  have HB : Hid (Below w.heap.size w w1) := by rw [hw1]; exact (Below.refl w.heap.size w).alloc (Nat.le_refl _) _
  obtain ⟨nn, hnn⟩ : ∃ nn, bits .and .i64 n 1048575 = nn := ⟨_, rfl⟩
  cases far
  · cases odd
    all_goals (
      simp at hM
      have HM := hide hM
      clear hM
      go_enter Try.func18, Try.ntmps18
      go_wp2
      rw [← hw1]
      try rw [← unhide HM]
      clear hw1
      go_loopw [7, 6] (fun iv v wr => ∃ (j : Nat) (xs : List Int), j ≤ M ∧ iv = .int .i64 (j : Int) ∧ Hid (xs.length = j) ∧ Hid (wr.ownsRow w1.heap.size 3 1 v j (ints xs)) ∧ Hid (Below w1.heap.size w1 wr)) (fun iv _ _ => M - (intOf iv).toNat)
      case atStart => exact ⟨0, [], by omega, rfl, rfl, World.ownsRow_nil _ _ _ _, Below.refl _ _⟩
      case round =>
        obtain ⟨j, xs, hj, rfl, HXl, HOwn, HBr⟩ := hrel
        by_cases hlt : j < M
        · obtain ⟨z, hz⟩ : ∃ z, wrap64 (nn / 2 + (j : Int)) = z := ⟨_, rfl⟩
          go_wp2_with (at_builtin; refine wpList_append_own _ rfl _ _ 34 rfl w1.heap.size 3 i0 (.int .i64 0) 1 8 Try.underlying34 (unhide HI).1 (unhide HI).2.1 (unhide HI).2.2.1 (unhide HI).2.2.2 rfl (by decide) _ _ _ rfl ((unhide HOwn).alloc _) ⟨wr.heap.size, 0, none⟩ 1 1 [.int .i64 z] rfl rfl ?d1 ?d2 ?d3 ?d4 ?d5 ?_)
          case d1 => exact cell_one_new _ _ _
          case d2 => exact ints_one [z]
          case d3 => unfold maxLen; omega
          case d4 => omega
          case d5 => have := (unhide HBr).size; simp; omega
          intro v4 w4 hown4 hg4 _
          have hgr : ∀ q, Value.ownBlock _ = some q → w1.heap.size ≤ q := fun q hq => ((unhide HOwn).lt q hq).1
          have HB4 := hide (((unhide HBr).alloc (unhide HBr).size _).grown hg4 (by have := (unhide HBr).size; simp; omega) hgr)
          have HOwn4 := hide (show w4.ownsRow w1.heap.size 3 1 v4 (j + 1) (ints (xs ++ [z])) by rw [ints_snoc]; exact hown4)
          have HXl4 : Hid ((xs ++ [z]).length = j + 1) := by show _ = _; rw [List.length_append, unhide HXl]; rfl
          clear hown4 hg4 hgr
          go_wp2
          go_roundw
          case rel => exact ⟨j + 1, xs ++ [z], by omega, rfl, HXl4, HOwn4, HB4⟩
          case measure => simp [intOf]; omega
        · obtain rfl : M = j := by omega
          obtain ⟨a5, c5, rfl, hl5, hlen5⟩ := owned_lies (unhide HOwn)
          rw [hlen5] at HOwn ⊢
          have HL5 := hide hl5
          clear hl5 hlen5
          go_wp2
          go_ret
          exact ⟨a5, c5, xs, rfl, unhide HL5, unhide HXl, fun p hp => Nat.le_trans (unhide HB).size (owned_at (unhide HOwn) _ _ _ rfl p hp), below_trans (unhide HB) (unhide HBr)⟩)
  · cases odd
    all_goals (
      simp at hM
      have HM := hide hM
      clear hM
      go_enter Try.func18, Try.ntmps18
      go_wp2
      rw [← hw1]
      try rw [← unhide HM]
      clear hw1
      go_loopw [7, 6] (fun iv v wr => ∃ (j : Nat) (xs : List Int), j ≤ M ∧ iv = .int .i64 (j : Int) ∧ Hid (xs.length = j) ∧ Hid (wr.ownsRow w1.heap.size 3 1 v j (ints xs)) ∧ Hid (Below w1.heap.size w1 wr)) (fun iv _ _ => M - (intOf iv).toNat)
      case atStart => exact ⟨0, [], by omega, rfl, rfl, World.ownsRow_nil _ _ _ _, Below.refl _ _⟩
      case round =>
        obtain ⟨j, xs, hj, rfl, HXl, HOwn, HBr⟩ := hrel
        by_cases hlt : j < M
        · obtain ⟨z, hz⟩ : ∃ z, wrap64 (n / 2 + (j : Int)) = z := ⟨_, rfl⟩
          go_wp2_with (at_builtin; refine wpList_append_own _ rfl _ _ 34 rfl w1.heap.size 3 i0 (.int .i64 0) 1 8 Try.underlying34 (unhide HI).1 (unhide HI).2.1 (unhide HI).2.2.1 (unhide HI).2.2.2 rfl (by decide) _ _ _ rfl ((unhide HOwn).alloc _) ⟨wr.heap.size, 0, none⟩ 1 1 [.int .i64 z] rfl rfl ?d1 ?d2 ?d3 ?d4 ?d5 ?_)
          case d1 => exact cell_one_new _ _ _
          case d2 => exact ints_one [z]
          case d3 => unfold maxLen; omega
          case d4 => omega
          case d5 => have := (unhide HBr).size; simp; omega
          intro v4 w4 hown4 hg4 _
          have hgr : ∀ q, Value.ownBlock _ = some q → w1.heap.size ≤ q := fun q hq => ((unhide HOwn).lt q hq).1
          have HB4 := hide (((unhide HBr).alloc (unhide HBr).size _).grown hg4 (by have := (unhide HBr).size; simp; omega) hgr)
          have HOwn4 := hide (show w4.ownsRow w1.heap.size 3 1 v4 (j + 1) (ints (xs ++ [z])) by rw [ints_snoc]; exact hown4)
          have HXl4 : Hid ((xs ++ [z]).length = j + 1) := by show _ = _; rw [List.length_append, unhide HXl]; rfl
          clear hown4 hg4 hgr
          go_wp2
          go_roundw
          case rel => exact ⟨j + 1, xs ++ [z], by omega, rfl, HXl4, HOwn4, HB4⟩
          case measure => simp [intOf]; omega
        · obtain rfl : M = j := by omega
          obtain ⟨a5, c5, rfl, hl5, hlen5⟩ := owned_lies (unhide HOwn)
          rw [hlen5] at HOwn ⊢
          have HL5 := hide hl5
          clear hl5 hlen5
          go_wp2
          go_ret
          exact ⟨a5, c5, xs, rfl, unhide HL5, unhide HXl, fun p hp => Nat.le_trans (unhide HB).size (owned_at (unhide HOwn) _ _ _ rfl p hp), below_trans (unhide HB) (unhide HBr)⟩)
end Go.Proofs.Ytclikkhaaiihdaa
