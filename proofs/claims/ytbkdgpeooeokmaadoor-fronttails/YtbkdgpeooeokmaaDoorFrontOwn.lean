/- A window, and coefficients, in rows of their own that may be written. -/
import Derived.Test.YtbkdgpeooeokmaaDoorBase
namespace Go.Proofs.YtbkdgpeooeokmaaDoor
open Go.RowKit
set_option linter.unusedVariables false

set_option maxRecDepth 100000 in
theorem win_own16 (w : World) (hq : Quar w) :
    Calls Tryd.prog 59 #[.int .i64 16] w fun e w' => e = .returned (.slice (some ⟨w.heap.size, 0, none⟩) 16 16) ∧ Cells w' w.heap.size (ints (winOf 16)) ∧ Below w.heap.size w w' := by
  obtain ⟨i0, hi, hz0, hz1, hz2⟩ := info_parts Tryd.info3
  have HQ := hide hq
  clear hq
  go_enter Tryd.func59, Tryd.ntmps59
  go_wp2_with (at_make; refine wpList_make_full _ rfl _ _ 24 rfl w.heap.size 3 i0 (.int .i64 0) 1 Tryd.underlying24 hi hz0 hz1 _ _ _ _ 16 rfl rfl rfl rfl ?m1 ?m2 ?m3 ?_)
  case m1 => rw [hz2]; decide
  case m2 => decide
  case m3 => exact Nat.le_refl _
  intro w1 hown hgr
  have HO := hide (show w1.ownsRow w.heap.size 3 1 (.slice (some ⟨w.heap.size, 0, none⟩) 16 16) 16 (mixL 16 0) by rw [← mix_zero]; exact hown)
  have HB := hide ((Below.refl w.heap.size w).grown hgr (Nat.le_refl _) (fun _ h => by cases h))
  clear hown hgr
  go_wp2
  go_loopw [14] (fun i wr => ∃ k : Nat, k ≤ 16 ∧ i = .int .i64 k ∧ Hid (wr.ownsRow w.heap.size 3 1 (.slice (some ⟨w.heap.size, 0, none⟩) 16 16) 16 (mixL 16 k)) ∧ Hid (Below w.heap.size w wr))
    (fun i _ => 16 - (intOf i).toNat)
  case atStart => exact ⟨0, by decide, rfl, HO, HB⟩
  case round =>
    obtain ⟨k, hk, rfl, HOr, HBr⟩ := hrel
    obtain ⟨j, hj, hj2⟩ : ∃ j : Nat, j = k * 64 / 16 ∧ ((k : Int) * 64 / 16) = (j : Int) := ⟨_, rfl, by omega⟩
    have HJ := hide hj2
    have h64 : k < 16 → j < 64 := fun _ => by omega
    have HW := hide (show winAt 16 k = 8847 - halfI (7537 * cosAt j) 14 by subst hj; rfl)
    clear hj hj2
    go_wp2_with fail
    · have hlt : k < 16 := by omega
      rw [unhide HJ]
      refine (cos_any j _ (by have := h64 hlt; unfold In64; omega) ((unhide HQ).below (unhide HBr))).mono ?_
      rintro e w2 ⟨rfl, hb2⟩
      rw [cosI_at j (h64 hlt)]
      have hcb := cosAt_bd j
      have hhb := half_bd j
      generalize cosAt j = c at HW hcb hhb ⊢
      have HO2 := hide (owns_below (unhide HOr) hb2)
      have HB2 := hide ((unhide HBr).trans (hb2.mono (unhide HBr).size))
      clear HOr HBr hb2
      go_wp2_with fail
      refine (half_any (7537 * c) 14 _ (by unfold In64; omega)).mono ?_
      rintro e w3 ⟨rfl, hb3⟩
      generalize halfI (7537 * c) 14 = z at HW hhb ⊢
      have HO3 := hide (owns_below (unhide HO2) hb3)
      have HB3 := hide ((unhide HB2).trans (hb3.mono (unhide HB2).size))
      have hcell := (unhide HO3).cellAt k (by omega)
      rw [mix_at 16 k k hlt] at hcell
      have hfree := (unhide HO3).frozenAt k
      clear HO2 HB2 hb3
      go_wp2
      go_roundw
      case rel =>
        refine ⟨k + 1, by omega, by simp, ?_, ?_⟩
        · have h := ((unhide HO3).stored k (.int .i64 (8847 - z))).1
          rw [← unhide HW, mix_succ 16 k hlt] at h
          rw [← unhide HW]
          exact h
        · exact (unhide HB3).setCell (Nat.le_refl _) _
      case measure => simp [intOf]; omega
    · have hkn : k = 16 := by omega
      subst hkn
      rw [mix_all] at HOr
      have HC := hide (own_cells_of (unhide HOr))
      clear HOr
      go_ret
      exact ⟨rfl, unhide HC, unhide HBr⟩

set_option maxRecDepth 100000 in
theorem win_own32 (w : World) (hq : Quar w) :
    Calls Tryd.prog 59 #[.int .i64 32] w fun e w' => e = .returned (.slice (some ⟨w.heap.size, 0, none⟩) 32 32) ∧ Cells w' w.heap.size (ints (winOf 32)) ∧ Below w.heap.size w w' := by
  obtain ⟨i0, hi, hz0, hz1, hz2⟩ := info_parts Tryd.info3
  have HQ := hide hq
  clear hq
  go_enter Tryd.func59, Tryd.ntmps59
  go_wp2_with (at_make; refine wpList_make_full _ rfl _ _ 24 rfl w.heap.size 3 i0 (.int .i64 0) 1 Tryd.underlying24 hi hz0 hz1 _ _ _ _ 32 rfl rfl rfl rfl ?m1 ?m2 ?m3 ?_)
  case m1 => rw [hz2]; decide
  case m2 => decide
  case m3 => exact Nat.le_refl _
  intro w1 hown hgr
  have HO := hide (show w1.ownsRow w.heap.size 3 1 (.slice (some ⟨w.heap.size, 0, none⟩) 32 32) 32 (mixL 32 0) by rw [← mix_zero]; exact hown)
  have HB := hide ((Below.refl w.heap.size w).grown hgr (Nat.le_refl _) (fun _ h => by cases h))
  clear hown hgr
  go_wp2
  go_loopw [14] (fun i wr => ∃ k : Nat, k ≤ 32 ∧ i = .int .i64 k ∧ Hid (wr.ownsRow w.heap.size 3 1 (.slice (some ⟨w.heap.size, 0, none⟩) 32 32) 32 (mixL 32 k)) ∧ Hid (Below w.heap.size w wr))
    (fun i _ => 32 - (intOf i).toNat)
  case atStart => exact ⟨0, by decide, rfl, HO, HB⟩
  case round =>
    obtain ⟨k, hk, rfl, HOr, HBr⟩ := hrel
    obtain ⟨j, hj, hj2⟩ : ∃ j : Nat, j = k * 64 / 32 ∧ ((k : Int) * 64 / 32) = (j : Int) := ⟨_, rfl, by omega⟩
    have HJ := hide hj2
    have h64 : k < 32 → j < 64 := fun _ => by omega
    have HW := hide (show winAt 32 k = 8847 - halfI (7537 * cosAt j) 14 by subst hj; rfl)
    clear hj hj2
    go_wp2_with fail
    · have hlt : k < 32 := by omega
      rw [unhide HJ]
      refine (cos_any j _ (by have := h64 hlt; unfold In64; omega) ((unhide HQ).below (unhide HBr))).mono ?_
      rintro e w2 ⟨rfl, hb2⟩
      rw [cosI_at j (h64 hlt)]
      have hcb := cosAt_bd j
      have hhb := half_bd j
      generalize cosAt j = c at HW hcb hhb ⊢
      have HO2 := hide (owns_below (unhide HOr) hb2)
      have HB2 := hide ((unhide HBr).trans (hb2.mono (unhide HBr).size))
      clear HOr HBr hb2
      go_wp2_with fail
      refine (half_any (7537 * c) 14 _ (by unfold In64; omega)).mono ?_
      rintro e w3 ⟨rfl, hb3⟩
      generalize halfI (7537 * c) 14 = z at HW hhb ⊢
      have HO3 := hide (owns_below (unhide HO2) hb3)
      have HB3 := hide ((unhide HB2).trans (hb3.mono (unhide HB2).size))
      have hcell := (unhide HO3).cellAt k (by omega)
      rw [mix_at 32 k k hlt] at hcell
      have hfree := (unhide HO3).frozenAt k
      clear HO2 HB2 hb3
      go_wp2
      go_roundw
      case rel =>
        refine ⟨k + 1, by omega, by simp, ?_, ?_⟩
        · have h := ((unhide HO3).stored k (.int .i64 (8847 - z))).1
          rw [← unhide HW, mix_succ 32 k hlt] at h
          rw [← unhide HW]
          exact h
        · exact (unhide HB3).setCell (Nat.le_refl _) _
      case measure => simp [intOf]; omega
    · have hkn : k = 32 := by omega
      subst hkn
      rw [mix_all] at HOr
      have HC := hide (own_cells_of (unhide HOr))
      clear HOr
      go_ret
      exact ⟨rfl, unhide HC, unhide HBr⟩

set_option maxRecDepth 100000 in
theorem win_own64 (w : World) (hq : Quar w) :
    Calls Tryd.prog 59 #[.int .i64 64] w fun e w' => e = .returned (.slice (some ⟨w.heap.size, 0, none⟩) 64 64) ∧ Cells w' w.heap.size (ints (winOf 64)) ∧ Below w.heap.size w w' := by
  obtain ⟨i0, hi, hz0, hz1, hz2⟩ := info_parts Tryd.info3
  have HQ := hide hq
  clear hq
  go_enter Tryd.func59, Tryd.ntmps59
  go_wp2_with (at_make; refine wpList_make_full _ rfl _ _ 24 rfl w.heap.size 3 i0 (.int .i64 0) 1 Tryd.underlying24 hi hz0 hz1 _ _ _ _ 64 rfl rfl rfl rfl ?m1 ?m2 ?m3 ?_)
  case m1 => rw [hz2]; decide
  case m2 => decide
  case m3 => exact Nat.le_refl _
  intro w1 hown hgr
  have HO := hide (show w1.ownsRow w.heap.size 3 1 (.slice (some ⟨w.heap.size, 0, none⟩) 64 64) 64 (mixL 64 0) by rw [← mix_zero]; exact hown)
  have HB := hide ((Below.refl w.heap.size w).grown hgr (Nat.le_refl _) (fun _ h => by cases h))
  clear hown hgr
  go_wp2
  go_loopw [14] (fun i wr => ∃ k : Nat, k ≤ 64 ∧ i = .int .i64 k ∧ Hid (wr.ownsRow w.heap.size 3 1 (.slice (some ⟨w.heap.size, 0, none⟩) 64 64) 64 (mixL 64 k)) ∧ Hid (Below w.heap.size w wr))
    (fun i _ => 64 - (intOf i).toNat)
  case atStart => exact ⟨0, by decide, rfl, HO, HB⟩
  case round =>
    obtain ⟨k, hk, rfl, HOr, HBr⟩ := hrel
    have HW := hide (show winAt 64 k = 8847 - halfI (7537 * cosAt k) 14 by unfold winAt; rw [Nat.mul_div_cancel _ (by decide)])
    go_wp2_with fail
    · have hlt : k < 64 := by omega
      refine (cos_any k _ (by unfold In64; omega) ((unhide HQ).below (unhide HBr))).mono ?_
      rintro e w2 ⟨rfl, hb2⟩
      rw [cosI_at k hlt]
      have hcb := cosAt_bd k
      have hhb := half_bd k
      generalize cosAt k = c at HW hcb hhb ⊢
      have HO2 := hide (owns_below (unhide HOr) hb2)
      have HB2 := hide ((unhide HBr).trans (hb2.mono (unhide HBr).size))
      clear HOr HBr hb2
      go_wp2_with fail
      refine (half_any (7537 * c) 14 _ (by unfold In64; omega)).mono ?_
      rintro e w3 ⟨rfl, hb3⟩
      generalize halfI (7537 * c) 14 = z at HW hhb ⊢
      have HO3 := hide (owns_below (unhide HO2) hb3)
      have HB3 := hide ((unhide HB2).trans (hb3.mono (unhide HB2).size))
      have hcell := (unhide HO3).cellAt k (by omega)
      rw [mix_at 64 k k hlt] at hcell
      have hfree := (unhide HO3).frozenAt k
      clear HO2 HB2 hb3
      go_wp2
      go_roundw
      case rel =>
        refine ⟨k + 1, by omega, by simp, ?_, ?_⟩
        · have h := ((unhide HO3).stored k (.int .i64 (8847 - z))).1
          rw [← unhide HW, mix_succ 64 k hlt] at h
          rw [← unhide HW]
          exact h
        · exact (unhide HB3).setCell (Nat.le_refl _) _
      case measure => simp [intOf]; omega
    · have hkn : k = 64 := by omega
      subst hkn
      rw [mix_all] at HOr
      have HC := hide (own_cells_of (unhide HOr))
      clear HOr
      go_ret
      exact ⟨rfl, unhide HC, unhide HBr⟩

theorem window_own (n : Nat) (h : n = 16 ∨ n = 32 ∨ n = 64) (w : World) (hq : Quar w) :
    Calls Tryd.prog 59 #[.int .i64 (n : Int)] w fun e w' => e = .returned (.slice (some ⟨w.heap.size, 0, none⟩) n n) ∧ Cells w' w.heap.size (ints (mkL n (winAt n))) ∧ Below w.heap.size w w' := by
  have e : ∀ m, winOf m = mkL m (winAt m) := fun m => by simp [winOf, mkL]
  rcases h with rfl | rfl | rfl
  · rw [← e]; exact win_own16 w hq
  · rw [← e]; exact win_own32 w hq
  · rw [← e]; exact win_own64 w hq

set_option maxRecDepth 100000 in
theorem dct_own (a : Option Addr) (cap n c : Nat) (xs : List Int) (w : World) (hn : xs.length = n) (hm : mayD n) (h1 : 1 ≤ c) (h2 : c ≤ n) (hl : Lies w a xs) (hs : Small xs) (hq : Quar w) :
    Calls Tryd.prog 47 #[.int .i64 (c : Int), .slice a n cap] w fun e w' => ∃ g, e = .returned (.slice (some ⟨g, 0, none⟩) c c) ∧ w.heap.size ≤ g ∧ Lies w' (some ⟨g, 0, none⟩) (dctL c xs) ∧ Below w.heap.size w w' := by
  obtain ⟨i0, hi, hz0, hz1, hz2⟩ := info_parts Tryd.info3
  have h16 := (mayD_le hm).2
  have HD := hide (show decide ((n : Int) = 4 ∨ (n : Int) = 8 ∨ (n : Int) = 16) = true by rw [mayD_dec]; exact decide_eq_true hm)
  have HL := hide hl
  have HN := hide hn
  have HS := hide hs
  have HM := hide hm
  have HQ := hide hq
  have g1 : ¬ (c : Int) < 1 := by omega
  have g2 : ¬ (n : Int) < (c : Int) := by omega
  clear hl hn hs hm hq
  go_enter Tryd.func47, Tryd.ntmps47
  go_wp2_with fail
  obtain ⟨W0, hW0⟩ : ∃ W0, (w.alloc (.cells #[.slice a n cap] 24)).alloc (.cells #[.int .i64 (n : Int)] 3) = W0 := ⟨_, rfl⟩
  have HE := hide (show EnvD W0 (w.heap.size + 1) w.heap.size a n cap by
    rw [← hW0]
    refine ⟨?_, ?_⟩
    · have := dct_new_one (w.alloc (.cells #[.slice a n cap] 24)) (.int .i64 (n : Int)) 3
      simpa using this
    · have := dct_new_one w (.slice a n cap) 24
      rw [← this]
      exact Below.heap_alloc _ _ _ (by simp))
  have HBW := hide (show Below w.heap.size w W0 by rw [← hW0]; exact (alloc_below w _).alloc (by simp) _)
  have HSZ := hide (show W0.heap.size = w.heap.size + 2 by rw [← hW0]; simp)
  rw [hW0]
  clear hW0
  refine (maybe_any (n : Int) W0).mono ?_
  rintro e w0 ⟨rfl, rfl⟩
  rw [unhide HD]
  have cbn := dct_cell_one (unhide HE).hn
  go_wp2_with (at_make; refine wpList_make_full _ rfl _ _ 24 rfl w0.heap.size 3 i0 (.int .i64 0) 1 Tryd.underlying24 hi hz0 hz1 _ _ _ _ c rfl rfl rfl rfl ?m1 ?m2 ?m3 ?_)
  case m1 => rw [hz2]; omega
  case m2 => unfold maxLen; omega
  case m3 => exact Nat.le_refl _
  intro w1 hown hgr
  rw [ints_zero, dfill_zero c fun k => coefI k xs] at hown
  have HO := hide (own_cells hown)
  have HB := hide ((Below.refl w0.heap.size w0).grown hgr (Nat.le_refl _) (fun _ h => by cases h))
  clear hown hgr
  go_wp2
  have HB0 := hide (below_trans (unhide HBW) (unhide HB))
  generalize decide ((c : Int) < 1) = dd
  go_loopw [28] (fun i wr => ∃ k : Nat, k ≤ c ∧ i = .int .i64 (k : Int) ∧ Hid (Cells wr w0.heap.size (ints (dfillL c (fun k => coefI k xs) k))) ∧ Hid (Below w0.heap.size w0 wr))
    (fun i _ => c - (intOf i).toNat)
  case atStart => exact ⟨0, by omega, rfl, HO, HB⟩
  case round =>
    obtain ⟨k, hk, rfl, HOr, HBr⟩ := hrel
    by_cases hlt : k < c
    · obtain ⟨z, hz⟩ : ∃ z, coefI k xs = z := ⟨_, rfl⟩
      have HX := hide (dfill_set c (fun k => coefI k xs) k z hlt hz)
      have hbw := below_trans (unhide HBW) (unhide HBr)
      have HC : Hid (Calls Tryd.prog 66 #[.int .i64 (k : Int), .pointer (some ⟨w.heap.size + 1, 0, none⟩), .pointer (some ⟨w.heap.size, 0, none⟩)] wr fun e w' => e = .returned (.int .i64 z) ∧ Below wr.heap.size wr w') := by
        rw [← hz]
        exact coef_any (w.heap.size + 1) w.heap.size a cap n k xs wr (unhide HN) (unhide HM) (by omega) ((unhide HE).below (unhide HBr)) ((unhide HL).below hbw) (unhide HS) ((unhide HQ).below hbw)
      clear hz hbw HO HB cbn
      go_wp2_with fail
      refine (unhide HC).mono ?_
      rintro e w2 ⟨rfl, hb2⟩
      have HB2 := hide ((unhide HBr).trans (hb2.mono (unhide HBr).size))
      have HO2 := hide ((unhide HOr).below hb2)
      have hcell := (unhide HO2).cell k _ (ints_at _ k (by rw [dfill_len]; exact hlt))
      have hfree := (unhide HO2).free k
      clear hb2 HOr HBr HC
      go_wp2
      go_roundw
      case rel =>
        refine ⟨k + 1, by omega, by simp, ?_, (unhide HB2).setCell (Nat.le_refl _) _⟩
        have := (unhide HO2).set k (.int .i64 z)
        rw [ints_set, unhide HX] at this
        exact this
      case measure => simp [intOf]; omega
    · obtain rfl : k = c := by omega
      rw [dfill_all] at HOr
      have HL5 := hide (unhide HOr).lies
      have HB5 := hide (below_trans (unhide HBW) (unhide HBr))
      clear HOr HO
      go_wp2
      go_ret
      exact ⟨_, rfl, by have := unhide HSZ; omega, unhide HL5, unhide HB5⟩
end Go.Proofs.YtbkdgpeooeokmaaDoor
