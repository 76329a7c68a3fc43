/- The chapter's examples: awake returns true. -/
import Derived.Test.YtafbdkebokhnlaaDoorSized
namespace Go.Proofs.YtafbdkebokhnlaaDoor
open Go.RowKit
set_option linter.unusedVariables false

theorem wake_mov : movS 2 [1, 0, 0, 0] = 0 := by decide +kernel
theorem wake_re : downL 0 (partsL cosC 2 [1, 0, 0, 0]) = [16384, 16384, 16384] := by decide +kernel
theorem wake_im : downL 0 (partsL sinC 2 [1, 0, 0, 0]) = [0, 0, 0] := by decide +kernel
theorem wake_0 : spinS 1 ((0 : Nat) : Int) [1, 2] = [3] := by decide +kernel
theorem wake_1 : spinS 1 ((1 : Nat) : Int) [1, 2] = [-1] := by decide +kernel
theorem small12 : Small [1, 2] := by intro x hx; simp at hx; unfold In64; omega
theorem small1000 : Small [1, 0, 0, 0] := by intro x hx; simp at hx; unfold In64; omega

set_option maxRecDepth 100000 in
theorem fft_awake (w : World) (hq : Quar w) : Calls Tryd.prog 8 #[] w fun e w' => e = .returned (.bool true) ∧ Below w.heap.size w w' := by
  have HQ := hide hq
  clear hq
  go_enter Tryd.func8, Tryd.ntmps8
  go_wp2_with fail
  refine (spins_yes (some ⟨w.heap.size, 0, none⟩) 2 2 1 [1, 2] _ (lies_new w [1, 2] _ rfl) small12 rfl rfl (by decide)).mono ?_
  rintro e w1 ⟨p, rfl, hr, hb⟩
  have hb1 := (alloc_below w (.cells #[.int .i64 1, .int .i64 2] 3)).trans (hb.mono (by simp))
  obtain ⟨b, rfl, hra⟩ := hr.rat
  obtain ⟨q0, k0, e0, l0⟩ := hra.2 0 (by decide)
  obtain ⟨q1, k1, e1, l1⟩ := hra.2 1 (by decide)
  have x0 : (fun j : Nat => spinS 1 (j : Int) [1, 2]) 0 = [3] := wake_0
  have x1 : (fun j : Nat => spinS 1 (j : Int) [1, 2]) 1 = [-1] := wake_1
  rw [x0] at e0 l0
  rw [x1] at e1 l1
  obtain ⟨ba, oa, rfl, hlta, ha⟩ := l0.some (by decide)
  obtain ⟨bc, oc, rfl, hltc, hc⟩ := l1.some (by decide)
  have a0 : w1.cell? ⟨ba, oa, none⟩ = some (.int .i64 3) := ha 0 (by decide)
  have a1 : w1.cell? ⟨bc, oc, none⟩ = some (.int .i64 (-1)) := hc 0 (by decide)
  have HB1 := hide hb1
  have hbw := hra.1
  have HE := hide (And.intro e0 (And.intro e1 (And.intro a0 a1)))
  clear hb hr hb1 ha hc l0 l1 e0 e1 a0 a1 hra
  go_wp2_with fail
  refine (bins_yes (some ⟨w1.heap.size, 0, none⟩) 4 4 2 [1, 0, 0, 0] _ (lies_new w1 [1, 0, 0, 0] _ rfl) small1000 rfl rfl (by decide) ((unhide HQ).below ((unhide HB1).trans ((alloc_below w1 _).mono (unhide HB1).size)))).mono ?_
  rintro e w2 ⟨g1, g2, rfl, h1, h2, hb⟩
  rw [wake_mov] at h1 h2
  rw [wake_re] at h1
  rw [wake_im] at h2
  rw [wake_mov]
  have HB2 := hide ((alloc_below w1 (.cells #[.int .i64 1, .int .i64 0, .int .i64 0, .int .i64 0] 3)).trans (hb.mono (by simp)))
  have HC1 := hide h1.lies
  have HC2 := hide h2.lies
  clear h1 h2 hb
  go_wp2_with fail
  refine (same_any (some ⟨g1, 0, none⟩) (some ⟨w2.heap.size, 0, none⟩) 3 3 [16384, 16384, 16384] 3 rfl (by decide) _ ((unhide HC1).below (alloc_below _ _)) (lies_new w2 [16384, 16384, 16384] _ rfl)).mono ?_
  rintro e w3 ⟨rfl, h3⟩
  have hb := (alloc_below w2 (.cells #[.int .i64 16384, .int .i64 16384, .int .i64 16384] 3)).trans (h3.mono (by simp))
  have HB3 := hide (below_trans (unhide HB2) hb)
  have HC3 := hide ((unhide HC2).below hb)
  clear h3 hb HC1 HC2 HB2
  go_wp2_with fail
  refine (same_any (some ⟨g2, 0, none⟩) (some ⟨w3.heap.size, 0, none⟩) 3 3 [0, 0, 0] 3 rfl (by decide) _ ((unhide HC3).below (alloc_below _ _)) (lies_new w3 [0, 0, 0] _ rfl)).mono ?_
  rintro e w4 ⟨rfl, h3⟩
  have hb := (alloc_below w3 (.cells #[.int .i64 0, .int .i64 0, .int .i64 0] 3)).trans (h3.mono (by simp))
  have hb4 := below_trans (unhide HB3) hb
  have e0 : w4.cell? ⟨b, 0, none⟩ = some (.slice (some ⟨ba, oa, none⟩) 1 k0) := (hb4.cell (p := ⟨b, 0, none⟩) hbw).trans (unhide HE).1
  have e1 : w4.cell? ⟨b, 1, none⟩ = some (.slice (some ⟨bc, oc, none⟩) 1 k1) := (hb4.cell (p := ⟨b, 1, none⟩) hbw).trans (unhide HE).2.1
  have a0 : w4.cell? ⟨ba, oa, none⟩ = some (.int .i64 3) := (hb4.cell (p := ⟨ba, oa, none⟩) hlta).trans (unhide HE).2.2.1
  have a1 : w4.cell? ⟨bc, oc, none⟩ = some (.int .i64 (-1)) := (hb4.cell (p := ⟨bc, oc, none⟩) hltc).trans (unhide HE).2.2.2
  have HB4 := hide (below_trans (unhide HB1) hb4)
  clear h3 hb hb4 HC3 HB3
  go_wp2
  go_ret
  exact ⟨rfl, unhide HB4⟩
end Go.Proofs.YtafbdkebokhnlaaDoor
