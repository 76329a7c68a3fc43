/- DctLogs: the walk. -/
import Derived.Test.YtednmdammpkoeaaDoorDctWake
import Derived.Deep.DeepCutAuto
import Derived.Deep.CutBlock
namespace Go.Proofs.YtednmdammpkoeaaDoor
open Go.RowKit
set_option linter.unusedVariables false

set_option maxRecDepth 100000 in
theorem dctlogs_walk (a : Option Addr) (len cap : Nat) (zs : List Int) (w : World) (h1 : IsRow .i64 w a len cap zs) (hq : Quar w) :
    Calls Tryd.prog 4 #[.slice a len cap] w fun e w' => e = .returned (.bool true) ∧ Below w.heap.size w w' := by
  obtain ⟨xs, n, hxn, hn, hncap, hcap63, hlx, hsx, hcut⟩ := cutK_came 20 a len cap zs w h1
  have HN := hide hxn
  have HL := hide hlx
  have HS := hide hsx
  have HQ := hide hq
  clear h1 hxn hlx hsx hq
  go_enter Tryd.func4, Tryd.ntmps4
  go_wp2_with fail
  refine (dct_awake w (unhide HQ)).mono ?_
  rintro e w1 ⟨rfl, hb⟩
  have HB1 := hide hb
  clear hb
  go_upto_if 10 with fail
  go_cut [0] (fun l wc => l = .slice a n cap ∧ wc = w1)
  case first =>
    rcases hcut with rfl | ⟨rfl, hgt, hle, ad, rfl⟩
    all_goals (go_wp2_with fail; go_meet)
    all_goals (case rel => exact ⟨rfl, rfl⟩)
  case rest =>
  obtain ⟨rfl, rfl⟩ := hcut
  go_wp2_with fail
  refine (logs_any _ _ _ xs _ ((unhide HL).below (unhide HB1)) (unhide HS) (unhide HN) (by omega)).mono ?_
  rintro e w3 ⟨a1, l1, c1, rfl, hl1, hlies, hb⟩
  obtain rfl := hl1.symm.trans ((logs_len xs).trans (unhide HN))
  have HLI1 := hide hlies
  have HB3 := hide (below_trans (unhide HB1) hb)
  have HL3 := hide ((unhide HL).below (unhide HB3))
  clear hlies hb HB1 hl1 HL
  go_wp2
  go_loopw [5] (fun i wr => ∃ k : Nat, k ≤ xs.length ∧ i = .int .i64 (k : Int) ∧ Hid (∃ d, wr = w3.drewN d))
    (fun i _ => 20 - (intOf i).toNat)
  case atStart => exact ⟨0, by omega, rfl, 0, rfl⟩
  case round =>
    obtain ⟨k, hk, rfl, HD⟩ := hrel
    have hxl := unhide HN
    by_cases hlt : k < xs.length
    · obtain ⟨ba, oa, rfl, hlta, hca⟩ := (unhide HL3).some (by intro h; subst h; simp at hlt)
      obtain ⟨b1, o1, rfl, hlt1, hc1⟩ := (unhide HLI1).some (by intro h; have := logs_len xs; rw [h] at this; simp at this; omega)
      obtain ⟨x, hx⟩ : ∃ x, xs.getD k 0 = x := ⟨_, rfl⟩
      obtain ⟨z, hz⟩ : ∃ z, logI (moreI x) = z := ⟨_, rfl⟩
      have cx : wr.cell? ⟨ba, oa + k, none⟩ = some (.int .i64 x) := by
        obtain ⟨d, rfl⟩ := unhide HD; rw [← hx]; exact hca k hlt
      have cz : wr.cell? ⟨b1, o1 + k, none⟩ = some (.int .i64 z) := by
        obtain ⟨d, rfl⟩ := unhide HD
        show w3.cell? ⟨b1, o1 + k, none⟩ = _
        rw [hc1 k (by rw [logs_len]; exact hlt), logs_at _ _ hlt, hx, hz]
      obtain ⟨f1, f2, f3⟩ := more_facts x (by rw [← hx]; exact (unhide HS).all k)
      rw [hz] at f1 f2 f3
      have HX := hide (And.intro hx hz)
      clear hx hz hca hc1
      have f4 : decide (z < 0) = false := decide_eq_false (by omega)
      have f5 : decide (16384 ≤ z) = false := decide_eq_false (by omega)
      have f6 : (z == 0) = decide (x ≤ 0) := by
        by_cases c : x ≤ 0
        · rw [decide_eq_true c]; simp; exact f3.2 c
        · rw [decide_eq_false c]; simp; exact fun e => c (f3.1 e)
      have hkl := hxl ▸ hlt
      have hkn : (k : Int) < (l1 : Int) := by omega
      clear hcut
      go_wp2_with fail
      go_quiet (fail)
      go_wp2
      go_loopw [6] (fun i wr2 => ∃ j : Nat, j ≤ k ∧ i = .int .i64 (j : Int) ∧ Hid (∃ d, wr2 = w3.drewN d))
        (fun i _ => k - (intOf i).toNat)
      case atStart => exact ⟨0, by omega, rfl, by obtain ⟨d, rfl⟩ := unhide HD; exact ⟨d + nq, by rw [World.drewN_drewN]⟩⟩
      case round =>
        obtain ⟨j, hj, rfl, HD2⟩ := hrel
        obtain ⟨wr2, rfl⟩ : ∃ x, x = wr := ⟨_, rfl⟩
        by_cases hlt2 : j < k
        · obtain ⟨_, _, hbo, _, hca⟩ := (unhide HL3).some (by intro h; subst h; simp at hlt)
          obtain ⟨_, _, hbo1, _, hc1⟩ := (unhide HLI1).some (by intro h; have := logs_len xs; rw [h] at this; simp at this; omega)
          injection hbo with hbo
          injection hbo with e1 e2
          subst e1 e2
          injection hbo1 with hbo1
          injection hbo1 with e1 e2
          subst e1 e2
          have hjx : j < xs.length := by omega
          obtain ⟨y, hy⟩ : ∃ y, xs.getD j 0 = y := ⟨_, rfl⟩
          obtain ⟨v, hv⟩ : ∃ v, logI (moreI y) = v := ⟨_, rfl⟩
          have dx : wr2.cell? ⟨ba, oa + k, none⟩ = some (.int .i64 x) := by
            obtain ⟨d, rfl⟩ := unhide HD2; rw [← (unhide HX).1]; exact hca k hlt
          have dz : wr2.cell? ⟨b1, o1 + k, none⟩ = some (.int .i64 z) := by
            obtain ⟨d, rfl⟩ := unhide HD2
            show w3.cell? ⟨b1, o1 + k, none⟩ = _
            rw [hc1 k (by rw [logs_len]; exact hlt), logs_at _ _ hlt, (unhide HX).1, (unhide HX).2]
          have dy : wr2.cell? ⟨ba, oa + j, none⟩ = some (.int .i64 y) := by
            obtain ⟨d, rfl⟩ := unhide HD2; rw [← hy]; exact hca j hjx
          have dv : wr2.cell? ⟨b1, o1 + j, none⟩ = some (.int .i64 v) := by
            obtain ⟨d, rfl⟩ := unhide HD2
            show w3.cell? ⟨b1, o1 + j, none⟩ = _
            rw [hc1 j (by rw [logs_len]; exact hjx), logs_at _ _ hjx, hy, hv]
          have hm1 : x ≤ y → z ≤ v := fun h => by rw [← (unhide HX).2, ← hv]; exact more_mono x y h
          have hm2 : y ≤ x → v ≤ z := fun h => by rw [← (unhide HX).2, ← hv]; exact more_mono y x h
          have hjn : (j : Int) < (l1 : Int) := by omega
          have hjk : (j : Int) < (k : Int) := by omega
          clear hca hc1 hy hv f4 f5 f6 f3 cx cz
          rcases Int.lt_trichotomy x y with c | c | c
          · have g1 : decide (x ≤ y) = true := decide_eq_true (by omega)
            have g2 : decide (y ≤ x) = false := decide_eq_false (by omega)
            have g3 : decide (v < z) = false := decide_eq_false (by have := hm1 (by omega); omega)
            clear hm1 hm2
            go_wp2_with fail
            go_quiet (fail)
            go_wp2
            go_roundw
            case rel => exact ⟨j + 1, by omega, by simp, by obtain ⟨d, rfl⟩ := unhide HD2; exact ⟨d + nq, by rw [World.drewN_drewN]⟩⟩
            case measure => simp [intOf]; omega
          · have g1 : decide (x ≤ y) = true := decide_eq_true (by omega)
            have g2 : decide (y ≤ x) = true := decide_eq_true (by omega)
            have g3 : decide (v < z) = false := decide_eq_false (by have := hm1 (by omega); omega)
            have g4 : decide (z < v) = false := decide_eq_false (by have := hm2 (by omega); omega)
            clear hm1 hm2 c
            go_wp2_with fail
            go_quiet (fail)
            go_wp2
            go_roundw
            case rel => exact ⟨j + 1, by omega, by simp, by obtain ⟨d, rfl⟩ := unhide HD2; exact ⟨d + nq, by rw [World.drewN_drewN]⟩⟩
            case measure => simp [intOf]; omega
          · have g1 : decide (x ≤ y) = false := decide_eq_false (by omega)
            have g2 : decide (y ≤ x) = true := decide_eq_true (by omega)
            have g4 : decide (z < v) = false := decide_eq_false (by have := hm2 (by omega); omega)
            clear hm1 hm2
            go_wp2_with fail
            go_quiet (fail)
            go_wp2
            go_roundw
            case rel => exact ⟨j + 1, by omega, by simp, by obtain ⟨d, rfl⟩ := unhide HD2; exact ⟨d + nq, by rw [World.drewN_drewN]⟩⟩
            case measure => simp [intOf]; omega
        · obtain rfl : j = k := by omega
          go_wp2
          go_roundw
          case rel => exact ⟨j + 1, by omega, by simp, HD2⟩
          case measure => simp [intOf]; omega
    · obtain rfl : k = xs.length := by omega
      have hge : ¬ ((xs.length : Int) < (l1 : Int)) := by omega
      have HB5 : Hid (Below w.heap.size w wr) := by obtain ⟨d, rfl⟩ := unhide HD; exact below_trans (unhide HB3) (below_drewN w3 d)
      go_wp2
      go_ret
      exact ⟨rfl, unhide HB5⟩
end Go.Proofs.YtednmdammpkoeaaDoor
