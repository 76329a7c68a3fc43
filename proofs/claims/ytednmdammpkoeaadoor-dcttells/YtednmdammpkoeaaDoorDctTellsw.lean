/- DctTells: the walk. -/
import Derived.Test.YtednmdammpkoeaaDoorDctWake
namespace Go.Proofs.YtednmdammpkoeaaDoor
open Go.RowKit
set_option linter.unusedVariables false

set_option maxRecDepth 100000 in
theorem dcttells_walk (a : Option Addr) (len cap : Nat) (zs : List Int) (x q0 q1 : Int) (w : World) (h1 : IsRow .i64 w a len cap zs) (hx : In64 x) (h2 : In64 q0) (h3 : In64 q1) (hq : Quar w) :
    Calls Tryd.prog 3 #[.slice a len cap, .int .i64 x, .agg #[.int .i64 q0, .int .i64 q1]] w fun e w' => e = .returned (.bool true) ∧ Below w.heap.size w w' := by
  obtain ⟨xs, n, hxn, hn, hncap, hcap63, hlx, hsx, hcut⟩ := cutK_came 20 a len cap zs w h1
  obtain ⟨N, hN, _, hsz⟩ := sized_all x hx
  have hN16 := (mayD_le hN).2
  have HN := hide hxn
  have HL := hide hlx
  have HS := hide hsx
  have HSZ := hide hsz
  have HQ := hide hq
  obtain ⟨W0, hW0⟩ : ∃ W0, w.alloc (.cells #[.int .i64 q0, .int .i64 q1] 23) = W0 := ⟨_, rfl⟩
  obtain ⟨B, hB⟩ : ∃ B, w.heap.size = B := ⟨_, rfl⟩
  have hcs : W0.cell? ⟨B, 0, none⟩ = some (.int .i64 q0) ∧ W0.cell? ⟨B, 1, none⟩ = some (.int .i64 q1) := by
    rw [← hW0, ← hB]
    refine ⟨?_, ?_⟩ <;> (rw [World.cell?_alloc_at _ _ _ _ rfl]; rfl)
  have HC := hide hcs
  have HBW := hide (show Below w.heap.size w W0 by rw [← hW0]; exact alloc_below w _)
  have HSZB := hide (show B < W0.heap.size by rw [← hW0, ← hB]; simp)
  clear h1 hxn hlx hsx hsz hq hN hcs
  go_enter Tryd.func3, Tryd.ntmps3
  go_wp2_with fail
  have HB' := hide hB
  clear hW0 hB
  refine (dct_awake W0 ((unhide HQ).below (unhide HBW))).mono ?_
  rintro e w1 ⟨rfl, hb⟩
  have HCB := hide hb
  have HB1 := hide (below_trans (unhide HBW) hb)
  clear hb
  rcases hcut with rfl | ⟨rfl, hgt, hle, ad, rfl⟩
  all_goals go_wp2_with fail
  all_goals (
    refine (unhide HSZ _ _ _ xs _ ((unhide HL).below (unhide HB1)) (unhide HN)).mono ?_
    rintro e w2 ⟨g, rfl, hg, hc, hb⟩
    have HV := hide hc.lies
    have HCB2 := hide ((unhide HCB).trans (hb.mono (unhide HCB).size))
    have HB2 := hide (below_trans (unhide HB1) hb)
    clear hg hc hb
    go_wp2_with fail
    refine (logs_any _ _ _ xs _ ((unhide HL).below (unhide HB2)) (unhide HS) (unhide HN) (by omega)).mono ?_
    rintro e w3 ⟨a1, l1, c1, rfl, hl1, hlies, hb⟩
    obtain rfl := hl1.symm.trans ((logs_len xs).trans (unhide HN))
    have HL1 := hide hl1
    have HLI1 := hide hlies
    have HV3 := hide ((unhide HV).below hb)
    have HCB3 := hide ((unhide HCB2).trans (hb.mono (unhide HCB2).size))
    have HB3 := hide (below_trans (unhide HB2) hb)
    clear hl1 hlies hb
    go_wp2_with fail
    refine (rlogs_any _ _ _ xs _ ((unhide HL).below (unhide HB3)) (unhide HS) (unhide HN) (by omega)).mono ?_
    rintro e w4 ⟨a2, l2, c2, rfl, hl2, hlies, hb⟩
    obtain rfl := hl2.symm.trans ((logs_len xs).trans (unhide HN))
    have HLI2 := hide hlies
    have HLI1b := hide ((unhide HLI1).below hb)
    have HV4 := hide ((unhide HV3).below hb)
    have HCB4 := hide ((unhide HCB3).trans (hb.mono (unhide HCB3).size))
    have HB4 := hide (below_trans (unhide HB3) hb)
    clear hl2 hlies hb
    go_wp2_with fail
    refine (same_any a1 a2 c1 c2 (logsL xs) _ (unhide HL1) (by omega) _ (unhide HLI1b) (unhide HLI2)).mono ?_
    rintro e w5 ⟨rfl, hb⟩
    have HV5 := hide ((unhide HV4).below hb)
    have HCB5 := hide ((unhide HCB4).trans (hb.mono (unhide HCB4).size))
    have HB5 := hide (below_trans (unhide HB4) hb)
    have k0 : w5.cell? ⟨B, 0, none⟩ = some (.int .i64 q0) := ((unhide HCB5).cell (p := ⟨B, 0, none⟩) (unhide HSZB)).trans (unhide HC).1
    have k1 : w5.cell? ⟨B, 1, none⟩ = some (.int .i64 q1) := ((unhide HCB5).cell (p := ⟨B, 1, none⟩) (unhide HSZB)).trans (unhide HC).2
    clear hb
    go_wp2_with fail
    refine (dct_tells_any _ _ _ _ _ xs _ (unhide HN) (by omega) ((unhide HL).below (unhide HB5)) (unhide HS) ((unhide HQ).below (unhide HB5))).mono ?_
    rintro e w6 ⟨rfl, hb⟩
    have HV6 := hide ((unhide HV5).below hb)
    have HCB6 := hide ((unhide HCB5).trans (hb.mono (unhide HCB5).size))
    have HB6 := hide (below_trans (unhide HB5) hb)
    have k2 : w6.cell? ⟨B, 0, none⟩ = some (.int .i64 q0) := ((unhide HCB6).cell (p := ⟨B, 0, none⟩) (unhide HSZB)).trans (unhide HC).1
    clear hb k0 k1
    go_wp2_with fail
    refine (dct_tells_any _ _ _ _ _ (sizedL xs N) _ (sized_len _ _) (by omega) (unhide HV6) (sized_small _ _ (unhide HS)) ((unhide HQ).below (unhide HB6))).mono ?_
    rintro e w7 ⟨rfl, hb⟩
    have HV7 := hide ((unhide HV6).below hb)
    have HCB7 := hide ((unhide HCB6).trans (hb.mono (unhide HCB6).size))
    have HB7 := hide (below_trans (unhide HB6) hb)
    have k3 : w7.cell? ⟨B, 0, none⟩ = some (.int .i64 q0) := ((unhide HCB7).cell (p := ⟨B, 0, none⟩) (unhide HSZB)).trans (unhide HC).1
    have k4 : w7.cell? ⟨B, 1, none⟩ = some (.int .i64 q1) := ((unhide HCB7).cell (p := ⟨B, 1, none⟩) (unhide HSZB)).trans (unhide HC).2
    clear hb k2
    go_wp2_with fail
    refine (dct_tells_any _ _ _ _ _ (sizedL xs N) _ (sized_len _ _) (by omega) (unhide HV7) (sized_small _ _ (unhide HS)) ((unhide HQ).below (unhide HB7))).mono ?_
    rintro e w8 ⟨rfl, hb⟩
    have HB8 := hide (below_trans (unhide HB7) hb)
    clear hb k3 k4
    go_wp2_with fail
    go_ret
    exact ⟨rfl, unhide HB8⟩)
end Go.Proofs.YtednmdammpkoeaaDoor
