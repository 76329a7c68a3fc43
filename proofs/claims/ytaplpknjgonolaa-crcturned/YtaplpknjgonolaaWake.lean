/- Contracts of awake, short, opens. -/
import Derived.Test.YtaplpknjgonolaaSeal
namespace Go.Proofs.Ytaplpknjgonolaa
open Go.RowKit
set_option linter.unusedVariables false

set_option maxRecDepth 100000 in
theorem awake_any (w : World) : Calls Try.prog 8 #[] w fun e w' => e = .returned (.bool true) ∧ Below w.heap.size w w' := by
  have hc : sumN (cat [⟨#[49, 50, 51, 52, 53]⟩, ⟨#[54, 55, 56, 57]⟩]) = 3421780262 := sum_awake
  have HC := hide hc
  clear hc
  go_enter Try.func8, Try.ntmps8
  go_wp2_with fail
  refine (sum_any _ 2 [⟨#[49, 50, 51, 52, 53]⟩, ⟨#[54, 55, 56, 57]⟩] 2 rfl _ (liesS_new w _) (by intro s hs; simp at hs; rcases hs with rfl | rfl <;> decide) (by omega)).mono ?_
  rintro e w1 ⟨rfl, hb⟩
  rw [unhide HC]
  have hbw : Below w.heap.size w w1 := ((Below.refl _ w).alloc (Nat.le_refl _) _).trans (hb.mono (by simp))
  clear hb
  go_wp2
  go_ret
  exact ⟨rfl, hbw⟩

/-- A text, or its first 60 bytes. -/
def shortB (s : ByteArray) : ByteArray := if 60 < s.size then s.extract 0 60 else s
theorem shortB_le (s : ByteArray) : (shortB s).size ≤ 60 := by
  unfold shortB
  split
  · rw [ByteArray.size_extract]; omega
  · omega

theorem short_any (s : ByteArray) (w : World) : Calls Try.prog 9 #[.string s] w fun e w' => e = .returned (.string (shortB s)) ∧ w' = w := by
  by_cases h : 60 < s.size
  · have HS := hide (show shortB s = s.extract 0 60 by unfold shortB; rw [if_pos h])
    have h' : (60 : Int) < s.size := by omega
    go_enter Try.func9, Try.ntmps9
    go_wp2
    go_ret
    exact ⟨by rw [unhide HS]; rfl, rfl⟩
  · have HS := hide (show shortB s = s by unfold shortB; rw [if_neg h])
    have h' : ¬ (60 : Int) < s.size := by omega
    go_enter Try.func9, Try.ntmps9
    go_wp2
    go_ret
    exact ⟨by rw [unhide HS]; rfl, rfl⟩

set_option maxRecDepth 100000 in
set_option maxHeartbeats 1000000 in
theorem opens_any (f : ByteArray) (w : World) (hf : f.size ≤ 1000000) : Calls Try.prog 14 #[.string f] w fun e w' => e = .returned (.bool true) ∧ Below w.heap.size w w' := by
  obtain ⟨s, hs⟩ : ∃ s, (openB f).1 = s := ⟨_, rfl⟩
  obtain ⟨b, hb⟩ : ∃ b, (openB f).2 = b := ⟨_, rfl⟩
  have HS := hide hs
  have HB := hide hb
  clear hs hb
  go_enter Try.func14, Try.ntmps14
  go_wp2_with fail
  refine (open_any f _ hf).mono ?_
  rintro e w1 ⟨rfl, hb⟩
  rw [unhide HS, unhide HB]
  have HB1 := hide hb
  clear hb
  go_wp2_with fail
  refine (ropen_any f _ hf).mono ?_
  rintro e w2 ⟨rfl, hb⟩
  rw [unhide HS, unhide HB]
  have HB2 := hide (below_trans (unhide HB1) hb)
  clear hb HB1
  go_wp2
  go_ret
  exact ⟨rfl, (unhide HB2).alloc (unhide HB2).size _⟩
end Go.Proofs.Ytaplpknjgonolaa
