/- MelEdges: the walk. -/
import Derived.Test.YtmogegacgmgkbaaMelWake
namespace Go.Proofs.Ytmogegacgmgkbaa
open Go.RowKit
set_option linter.unusedVariables false

theorem and15e (n : Int) : bits .and .i64 n 15 = n % 16 := i64_mask n 15 4 (by decide) (by decide)
theorem edgesL_at (n M k : Nat) (h : k < M + 2) : (edgesL n M).getD k 0 = (edgeN n M k : Int) := mkL_at _ _ _ h

set_option maxRecDepth 100000 in
set_option maxHeartbeats 4000000 in
theorem meledges_walk (x y : Int) (w : World) :
    Calls Try.prog 5 #[.int .i64 x, .int .i64 y] w fun e w' => e = .returned (.bool true) ∧ Below w.heap.size w w' := by
  obtain ⟨p, hp, hp64⟩ : ∃ p : Nat, x % 64 = (p : Int) - 1 + 0 ∧ 1 ≤ p ∧ p ≤ 64 := ⟨(x % 64).toNat + 1, by omega, by omega⟩
  obtain ⟨q, hq, hq15⟩ : ∃ q : Nat, y % 16 = (q : Int) ∧ q ≤ 15 := ⟨(y % 16).toNat, by omega, by omega⟩
  obtain ⟨N, hN⟩ : ∃ N, N = p + 1 := ⟨_, rfl⟩
  obtain ⟨M, hM⟩ : ∃ M, M = q + 1 := ⟨_, rfl⟩
  have ha := and63 x
  have hb := and15e y
  have hN2 : 2 + x % 64 = (N : Int) := by omega
  have hM2 : 1 + y % 16 = (M : Int) := by omega
  have hNp : (N : Int) - 1 = (p : Int) := by omega
  have hN1 : 2 ≤ N := by omega
  have hN65 : N ≤ 65 := by omega
  have hM1 : 1 ≤ M := by omega
  have hM16 : M ≤ 16 := by omega
  have HP := hide hN
  clear hp hq hN hM hp64
  obtain ⟨T, hT⟩ : ∃ T, hiN p = T := ⟨_, rfl⟩
  have htb := hi_bds p (by omega)
  rw [hT] at htb
  have HT := hide hT
  clear hT
  go_enter Try.func5, Try.ntmps5
  go_wp2_with fail
  refine (mel_awake w).mono ?_
  rintro e w1 ⟨rfl, hb1⟩
  have HB := hide hb1
  clear hb1
  go_wp2_with fail
  refine (edges_yes N M w1 hN1 hN65 hM1 hM16).mono ?_
  intro e w2 hTold
  obtain ⟨M1, hM1e⟩ : ∃ M1, M1 = M + 1 := ⟨_, rfl⟩
  obtain ⟨D, hDe⟩ : ∃ D, D = M1 + 1 := ⟨_, rfl⟩
  obtain ⟨a, c, rfl, hl, hb2⟩ := told_len hTold (n := D) (by rw [edgesL, mkL_len]; omega)
  obtain ⟨b, off, rfl, hblt, hcell⟩ := hl.some (by intro h; have := congrArg List.length h; rw [edgesL, mkL_len] at this; simp at this)
  have HB2 := hide (below_trans (unhide HB) hb2)
  have hci : ∀ j, j ≤ M1 → w2.cell? ⟨b, off + j, none⟩ = some (.int .i64 (edgeN N M j : Int)) := fun j hj => by rw [hcell j (by rw [edgesL, mkL_len]; omega), edgesL_at N M j (by omega)]
  have HCI := hide hci
  have hc0 : w2.cell? ⟨b, off, none⟩ = some (.int .i64 0) := by have := hci 0 (by omega); rw [edge_zero N M hN1 hN65] at this; exact this
  have hcM : w2.cell? ⟨b, off + M1, none⟩ = some (.int .i64 (p : Int)) := by
    have := hci M1 (Nat.le_refl _)
    rw [hM1e, edge_top N M hN1 hN65, show N - 1 = p by have := unhide HP; omega] at this
    rw [hM1e]; exact this
  have eM1 : (M : Int) + 1 = (M1 : Int) := by omega
  have eD : (M : Int) + 2 = (D : Int) := by omega
  have hMD : (M1 : Int) < (D : Int) := by omega
  have h0D : (0 : Int) < (D : Int) := by omega
  have h17 : M1 ≤ 17 := by omega
  have HM1 := hide hM1e
  have HD := hide hDe
  clear hTold hl hb2 hcell hci hM1e hDe HB hN2 hM2 ha hb
  go_wp2_with fail
  go_loopw [9] (fun i wr => ∃ kp : Nat, kp ≤ M1 ∧ i = .int .i64 ((kp : Int) + 1) ∧ wr = w2) (fun i _ => D - (intOf i).toNat)
  case atStart => exact ⟨0, by omega, rfl, rfl⟩
  case round =>
    obtain ⟨kp, hk, rfl, rfl⟩ := hrel
    by_cases hlt : kp < M1
    · obtain ⟨k, hke⟩ : ∃ k, k = kp + 1 := ⟨_, rfl⟩
      have hki : (kp : Int) + 1 = (k : Int) := by omega
      have hkpi : (k : Int) - 1 = (kp : Int) := by omega
      obtain ⟨s1, s2, s3⟩ := edge_spec N M k hN1 hN65 (by have := unhide HM1; omega)
      have s4 := edge_mono N M kp k hN1 hN65 (by omega) (by have := unhide HM1; omega)
      rw [show N - 1 = p by have := unhide HP; omega, unhide HT, show (M : Int) + 1 = (M1 : Int) from eM1] at s2 s3
      have c1 := unhide HCI k (by omega)
      have c2 := unhide HCI kp (by omega)
      obtain ⟨E, hE⟩ : ∃ E, edgeN N M k = E := ⟨_, rfl⟩
      obtain ⟨F, hF⟩ : ∃ F, edgeN N M kp = F := ⟨_, rfl⟩
      rw [hE] at s1 s2 s3 s4 c1
      rw [hF] at s4 c2
      obtain ⟨u, hu⟩ : ∃ u, hiN E = u := ⟨_, rfl⟩
      have hub := hi_bds E (by omega)
      rw [hu] at s2 hub
      have huM := prod_hi u (M1 : Int) hub.1 hub.2 (by omega) (by omega)
      have hkT := prod_hi T (k : Int) htb.1 htb.2 (by omega) (by omega)
      rw [Int.mul_comm] at hkT
      have HU := hide hu
      have HS3 := hide s3
      have hEN : (E : Int) < (N : Int) := by omega
      have hFE : (F : Int) ≤ (E : Int) := by omega
      have hkD : (k : Int) < (D : Int) := by omega
      have hge2 : ¬ u * (M1 : Int) < (k : Int) * T := by omega
      clear s1 s2 s3 hu hE hF hke
      rw [hki]
      by_cases e0 : E = 0
      · subst e0
        have HU0 := hide (show highI 0 = u from unhide HU)
        go_wp2_with fail
        refine (high_any 0 _ (by unfold In64; omega)).mono ?_
        rintro e w' ⟨rfl, rfl⟩
        rw [unhide HU0]
        go_wp2_with fail
        refine (high_any (p : Int) _ (by unfold In64; omega)).mono ?_
        rintro e w' ⟨rfl, rfl⟩
        rw [show highI (p : Int) = T from unhide HT]
        go_wp2_with fail
        all_goals first | (exfalso; omega) | skip
        go_roundw
        case rel => exact ⟨k, by omega, by rw [← hki], trivial⟩
        case measure => simp [intOf]; omega
      · have he : (0 : Int) < (E : Int) := by omega
        obtain ⟨G, hG⟩ : ∃ G, E = G + 1 := ⟨E - 1, by omega⟩
        have hGi : (E : Int) - 1 = (G : Int) := by omega
        obtain ⟨v, hv⟩ : ∃ v, hiN G = v := ⟨_, rfl⟩
        have hvb := hi_bds G (by omega)
        rw [hv] at hvb
        have hvM := prod_hi v (M1 : Int) hvb.1 hvb.2 (by omega) (by omega)
        have hlt2 : v * (M1 : Int) < (k : Int) * T := by have := unhide HS3 G (by omega); rwa [hv] at this
        have HV := hide hv
        have HG := hide hG
        have hG64 : (G : Int) ≤ 64 := by omega
        clear hv hG e0
        go_wp2_with fail
        refine (high_any (E : Int) _ (by unfold In64; omega)).mono ?_
        rintro e w' ⟨rfl, rfl⟩
        rw [show highI (E : Int) = u from unhide HU]
        go_wp2_with fail
        refine (high_any (p : Int) _ (by unfold In64; omega)).mono ?_
        rintro e w' ⟨rfl, rfl⟩
        rw [show highI (p : Int) = T from unhide HT]
        go_wp2_with fail
        refine (high_any (G : Int) _ (by unfold In64; omega)).mono ?_
        rintro e w' ⟨rfl, rfl⟩
        rw [show highI (G : Int) = v from unhide HV]
        go_wp2_with fail
        refine (high_any (p : Int) _ (by unfold In64; omega)).mono ?_
        rintro e w' ⟨rfl, rfl⟩
        rw [show highI (p : Int) = T from unhide HT]
        go_wp2_with fail
        all_goals first | (exfalso; omega) | skip
        go_roundw
        case rel => exact ⟨k, by omega, by rw [← hki], trivial⟩
        case measure => simp [intOf]; omega
    · obtain rfl : kp = M1 := by omega
      have hge : ¬ (kp : Int) + 1 < (D : Int) := by have := unhide HD; omega
      obtain ⟨p1, hp1⟩ : ∃ p1, p = p1 + 1 := ⟨p - 1, by have := unhide HP; omega⟩
      have hNp1 : (N : Int) - 2 = (p1 : Int) := by omega
      obtain ⟨v, hv⟩ : ∃ v, hiN p1 = v := ⟨_, rfl⟩
      have hvT : v ≤ T := by have := hi_le (a := p1) (b := p) (by omega) (by omega); rw [hv, unhide HT] at this; exact this
      have HV := hide hv
      have hp64 : (p1 : Int) ≤ 64 := by omega
      clear hv hp1
      go_wp2_with fail
      refine (high_any 0 _ (by unfold In64; omega)).mono ?_
      rintro e w' ⟨rfl, rfl⟩
      rw [show highI 0 = 0 from hi_zero]
      go_wp2_with fail
      refine (high_any (p1 : Int) _ (by unfold In64; omega)).mono ?_
      rintro e w' ⟨rfl, rfl⟩
      rw [show highI (p1 : Int) = v from unhide HV]
      go_wp2_with fail
      refine (high_any (p : Int) _ (by unfold In64; omega)).mono ?_
      rintro e w' ⟨rfl, rfl⟩
      rw [show highI (p : Int) = T from unhide HT]
      go_wp2_with fail
      all_goals first | (exfalso; omega) | skip
      go_ret
      exact ⟨rfl, unhide HB2⟩
end Go.Proofs.Ytmogegacgmgkbaa
