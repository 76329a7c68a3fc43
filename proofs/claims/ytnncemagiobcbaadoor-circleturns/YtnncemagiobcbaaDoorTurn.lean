/- CircleTurns returns true. -/
import Derived.Test.YtnncemagiobcbaaDoorWake
namespace Go.Proofs.YtnncemagiobcbaaDoor
open Go.RowKit
set_option linter.unusedVariables false

set_option maxRecDepth 100000 in
set_option maxHeartbeats 1600000 in
theorem turns_walk (k t : Int) (w : World) (hk : In64 k) (ht : In64 t) (hq : Quar w) : Calls Tryd.prog 4 #[.int .i64 k, .int .i64 t] w fun e w' => e = .returned (.bool true) ∧ Below w.heap.size w w' := by
  have HQ := hide hq
  clear hq
  obtain ⟨hk1, hk2⟩ := hk
  obtain ⟨x, hx⟩ : ∃ x, k / 8 = x := ⟨_, rfl⟩
  have hx1 : -1152921504606846976 ≤ x := by omega
  have hx2 : x ≤ 1152921504606846975 := by omega
  obtain ⟨m, hm⟩ : ∃ m, t.tmod 1000 = m := ⟨_, rfl⟩
  have hm1 : -1000 < m ∧ m < 1000 := by rw [← hm]; exact ⟨by have := Int.lt_tmod_of_pos t (show (0 : Int) < 1000 by decide); omega, Int.tmod_lt_of_pos _ (by decide)⟩
  have hy : wrap64 (x + wrap64 (64 * m)) = x + 64 * m := by rw [w64_in (show In64 (64 * m) from ⟨by omega, by omega⟩), w64_in (show In64 (x + 64 * m) from ⟨by omega, by omega⟩)]
  obtain ⟨y, hy2⟩ : ∃ y, x + 64 * m = y := ⟨_, rfl⟩
  have hyb : -2000000000000000000 ≤ y ∧ y ≤ 2000000000000000000 := by omega
  have ht := turn_any x
  have hr := round_any x m
  obtain ⟨c, hc⟩ : ∃ c, cosI x = c := ⟨_, rfl⟩
  obtain ⟨s, hs⟩ : ∃ s, sinI x = s := ⟨_, rfl⟩
  have hcb := cosI_bd x
  have hsb := sinI_bd x
  rw [hy2] at hy hr
  rw [hc, hs] at ht hr
  rw [hc] at hcb
  rw [hs] at hsb
  have HT := hide ht
  have HR := hide hr
  have HC := hide hc
  have HS := hide hs
  have HX := hide hx
  have HM := hide hm
  have HY := hide hy
  have hq0 : 0 ≤ x % 64 := by omega
  have hq1 : x % 64 < 64 := by omega
  have hq2 : (x - x % 64).tmod 64 = 0 := by rw [Int.tmod_eq_zero_of_dvd]; omega
  obtain ⟨q, hq⟩ : ∃ q, x % 64 = q := ⟨_, rfl⟩
  rw [hq] at hq0 hq1 hq2
  have HQQ := hide hq
  clear ht hr hc hs hx hm hy hy2 hq hm1 hk1 hk2
  go_enter Tryd.func4, Tryd.ntmps4
  go_wp2_with fail
  refine (awake_any _ (unhide HQ)).mono ?_
  rintro e w1 ⟨rfl, hb⟩
  have HB1 := hide hb
  have HQ1 := hide ((unhide HQ).below hb)
  clear hb HQ
  go_wp2_with fail
  rw [unhide HX, unhide HM, unhide HY]
  refine (cos_any x _ (⟨by omega, by omega⟩) (unhide HQ1)).mono ?_
  rintro e w2 ⟨rfl, hb⟩
  rw [unhide HC]
  have HB2 := hide (below_trans (unhide HB1) hb)
  have HQ2 := hide ((unhide HQ1).below hb)
  clear hb HQ1 HB1
  go_wp2_with fail
  refine (sin_any x _ (⟨by omega, by omega⟩) (unhide HQ2)).mono ?_
  rintro e w3 ⟨rfl, hb⟩
  rw [unhide HS]
  have HB3 := hide (below_trans (unhide HB2) hb)
  have HQ3 := hide ((unhide HQ2).below hb)
  clear hb HQ2 HB2
  go_wp2_with fail
  refine (cos_any y _ (⟨by omega, by omega⟩) (unhide HQ3)).mono ?_
  rintro e w4 ⟨rfl, hb⟩
  rw [(unhide HR).1]
  have HB4 := hide (below_trans (unhide HB3) hb)
  have HQ4 := hide ((unhide HQ3).below hb)
  clear hb HQ3 HB3
  go_wp2_with fail
  refine (sin_any y _ (⟨by omega, by omega⟩) (unhide HQ4)).mono ?_
  rintro e w5 ⟨rfl, hb⟩
  rw [(unhide HR).2]
  have HB5 := hide (below_trans (unhide HB4) hb)
  have HQ5 := hide ((unhide HQ4).below hb)
  clear hb HQ4 HB4
  go_wp2_with fail
  refine (cos_any (x + 32) _ (⟨by omega, by omega⟩) (unhide HQ5)).mono ?_
  rintro e w6 ⟨rfl, hb⟩
  rw [(unhide HT).1]
  have HB6 := hide (below_trans (unhide HB5) hb)
  have HQ6 := hide ((unhide HQ5).below hb)
  clear hb HQ5 HB5
  go_wp2_with fail
  refine (sin_any (x + 32) _ (⟨by omega, by omega⟩) (unhide HQ6)).mono ?_
  rintro e w7 ⟨rfl, hb⟩
  rw [(unhide HT).2.1]
  have HB7 := hide (below_trans (unhide HB6) hb)
  have HQ7 := hide ((unhide HQ6).below hb)
  clear hb HQ6 HB6
  go_wp2_with fail
  refine (cos_any (-x) _ (⟨by omega, by omega⟩) (unhide HQ7)).mono ?_
  rintro e w8 ⟨rfl, hb⟩
  rw [(unhide HT).2.2.1]
  have HB8 := hide (below_trans (unhide HB7) hb)
  have HQ8 := hide ((unhide HQ7).below hb)
  clear hb HQ7 HB7
  go_wp2_with fail
  refine (sin_any (-x) _ (⟨by omega, by omega⟩) (unhide HQ8)).mono ?_
  rintro e w9 ⟨rfl, hb⟩
  rw [(unhide HT).2.2.2.1]
  have HB9 := hide (below_trans (unhide HB8) hb)
  have HQ9 := hide ((unhide HQ8).below hb)
  clear hb HQ8 HB8
  go_wp2_with fail
  refine (sin_any (x + 16) _ (⟨by omega, by omega⟩) (unhide HQ9)).mono ?_
  rintro e w10 ⟨rfl, hb⟩
  rw [(unhide HT).2.2.2.2]
  have HB10 := hide (below_trans (unhide HB9) hb)
  have HQ10 := hide ((unhide HQ9).below hb)
  clear hb HQ9 HB9
  go_wp2_with fail
  refine (rest_any x _ (⟨by omega, by omega⟩)).mono ?_
  rintro e w11 ⟨rfl, hb⟩
  rw [unhide HQQ]
  have HB11 := hide (below_trans (unhide HB10) hb)
  have HQ11 := hide ((unhide HQ10).below hb)
  clear hb HQ10 HB10
  go_wp2_with fail
  refine (rest_any x _ (⟨by omega, by omega⟩)).mono ?_
  rintro e w12 ⟨rfl, hb⟩
  rw [unhide HQQ]
  have HB12 := hide (below_trans (unhide HB11) hb)
  have HQ12 := hide ((unhide HQ11).below hb)
  clear hb HQ11 HB11
  go_wp2_with fail
  refine (rest_any x _ (⟨by omega, by omega⟩)).mono ?_
  rintro e w13 ⟨rfl, hb⟩
  rw [unhide HQQ]
  have HB13 := hide (below_trans (unhide HB12) hb)
  have HQ13 := hide ((unhide HQ12).below hb)
  clear hb HQ12 HB12
  go_wp2
  go_ret
  exact ⟨rfl, unhide HB13⟩
end Go.Proofs.YtnncemagiobcbaaDoor
