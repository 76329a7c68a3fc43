/- Package front: numbers as a window has them; a frame's coefficients. -/
import Derived.Test.YtbkdgpeooeokmaaDoorFrontRight
namespace Go.Proofs.YtbkdgpeooeokmaaDoor
open Go.RowKit
set_option linter.unusedVariables false

set_option maxRecDepth 100000 in
theorem windowed_any (n : Nat) (hn : n = 16 ∨ n = 32 ∨ n = 64) (a : Option Addr) (cap : Nat) (ys : List Int) (w : World) (hl : Lies w a ys) (hy : ys.length = n) (hall : allIn ys (-65536) 65536 = true) (hq : Quar w) :
    Calls Tryd.prog 42 #[.slice a n cap] w fun e w' => e = .returned (.slice (some ⟨w.heap.size, 0, none⟩) n n) ∧ Cells w' w.heap.size (ints (winnedL n ys)) ∧ Below w.heap.size w w' := by
  have HL := hide hl
  have HY := hide hy
  have HA := hide hall
  have HC0 := hide (window_own n hn w hq)
  have hn64 : n ≤ 64 := by omega
  clear hl hy hall hq hn
  go_enter Tryd.func42, Tryd.ntmps42
  go_wp2_with fail
  refine (unhide HC0).mono ?_
  rintro e w1 ⟨rfl, hc, hb⟩
  have HO := hide (show Cells w1 w.heap.size (ints (dmixF n (fun t => halfI (ys.getD t 0 * winAt n t) 14) (winAt n) 0)) by rw [dmixF_zero]; exact hc)
  have HB := hide hb
  clear hc hb HC0
  go_wp2
  go_loopw [11] (fun i wr => ∃ t : Nat, t ≤ n ∧ i = .int .i64 (t : Int) ∧ Hid (Cells wr w.heap.size (ints (dmixF n (fun t => halfI (ys.getD t 0 * winAt n t) 14) (winAt n) t))) ∧ Hid (Below w.heap.size w wr))
    (fun i _ => n - (intOf i).toNat)
  case atStart => exact ⟨0, by omega, rfl, HO, HB⟩
  case round =>
    obtain ⟨t, ht, rfl, HOr, HBr⟩ := hrel
    by_cases hlt : t < n
    · obtain ⟨ba, oa, rfl, hlta, hca⟩ := (unhide HL).some (by intro h; have := unhide HY; subst h; simp at this; omega)
      obtain ⟨y, hyy⟩ : ∃ y, ys.getD t 0 = y := ⟨_, rfl⟩
      have cy : wr.cell? ⟨ba, oa + t, none⟩ = some (.int .i64 y) := by rw [(unhide HBr).cell (p := ⟨ba, _, none⟩) hlta, ← hyy]; exact hca t (by rw [unhide HY]; exact hlt)
      have hyb := allIn_at (unhide HA) t (by rw [unhide HY]; exact hlt)
      rw [hyy] at hyb
      obtain ⟨c, hc⟩ : ∃ c, winAt n t = c := ⟨_, rfl⟩
      have hcb := winAt_bd n t
      rw [hc] at hcb
      have cc := (unhide HOr).cell t (.int .i64 c) (by rw [ints_at _ t (by rw [dmixF_len]; exact hlt), dmixF_at _ _ _ _ hlt, hc])
      obtain ⟨P, hP⟩ : ∃ P, y * c = P := ⟨_, rfl⟩
      have hPb := mul_bd y c 65536 16384 (by decide) (by decide) (by omega) (by omega)
      rw [hP] at hPb
      obtain ⟨z, hz⟩ : ∃ z, halfI P 14 = z := ⟨_, rfl⟩
      have HX := hide (dmixF_set n (fun t => halfI (ys.getD t 0 * winAt n t) 14) (winAt n) t z hlt (by show halfI (ys.getD t 0 * winAt n t) 14 = z; rw [hyy, hc, hP, hz]))
      have HPI := hide (show In64 P from ⟨by omega, by omega⟩)
      have HZ := hide hz
      have hPw : IntKind.i64.wrap P = P := by rw [IntKind.wrap_i64]; omega
      have htn : (t : Int) < (n : Int) := by omega
      clear hca hyy hc hz HO HB
      go_wp2_with fail
      refine (half_any P 14 wr (unhide HPI)).mono ?_
      rintro e w2 ⟨rfl, hb2⟩
      rw [unhide HZ]
      have HB2 := hide ((unhide HBr).trans (hb2.mono (unhide HBr).size))
      have HO2 := hide ((unhide HOr).below hb2)
      have hcell := (unhide HO2).cell t _ (ints_at _ t (by rw [dmixF_len]; exact hlt))
      have hfree := (unhide HO2).free t
      clear hb2 HOr HBr cy cc
      go_wp2
      go_roundw
      case rel =>
        refine ⟨t + 1, by omega, by simp, ?_, (unhide HB2).setCell (Nat.le_refl _) _⟩
        have := (unhide HO2).set t (.int .i64 z)
        rw [ints_set, unhide HX] at this
        exact this
      case measure => simp [intOf]; omega
    · obtain rfl : t = n := by omega
      rw [dmixF_all] at HOr
      clear HO
      go_wp2
      go_ret
      exact ⟨rfl, unhide HOr, unhide HBr⟩

set_option maxRecDepth 100000 in
set_option maxHeartbeats 1600000 in
theorem coefs_any (n h B C : Nat) (hop pre : Int) (a : Option Addr) (cap : Nat) (ys : List Int) (w : World) (hr : rightF (n : Int) hop (B : Int) (C : Int) pre) (hh : n = 2 * h) (hm : mayN h) (hl : Lies w a ys) (hy : ys.length = n) (hall : allIn ys (-65536) 65536 = true) (hq : Quar w) :
    Calls Tryd.prog 36 #[.agg #[.int .i64 (n : Int), .int .i64 hop, .int .i64 (B : Int), .int .i64 (C : Int), .int .i64 pre], .slice a n cap] w fun e w' => ∃ g, e = .returned (.slice (some ⟨g, 0, none⟩) C C) ∧ w.heap.size ≤ g ∧ Lies w' (some ⟨g, 0, none⟩) (frameI n B C ys) ∧ Below w.heap.size w w' := by
  have hn64 : n = 16 ∨ n = 32 ∨ n = 64 := by have := hr.1; omega
  have hB : mayD B := by have := hr.2.2.2.1; unfold mayD; omega
  have hB16 := (mayD_le hB).2
  have hB4 := (mayD_le hB).1
  have hC1 : 1 ≤ C := by have := hr.2.2.2.2.1; omega
  have hC2 : C ≤ B := by have := hr.2.2.2.2.2.1; omega
  obtain ⟨W0, hW0⟩ : ∃ W0, w.alloc (.cells #[.int .i64 (n : Int), .int .i64 hop, .int .i64 (B : Int), .int .i64 (C : Int), .int .i64 pre] 54) = W0 := ⟨_, rfl⟩
  obtain ⟨F, hF⟩ : ∃ F, w.heap.size = F := ⟨_, rfl⟩
  have HF := hide (show Cells W0 F [.int .i64 (n : Int), .int .i64 hop, .int .i64 (B : Int), .int .i64 (C : Int), .int .i64 pre] by rw [← hW0, ← hF]; exact cells_new w [.int .i64 (n : Int), .int .i64 hop, .int .i64 (B : Int), .int .i64 (C : Int), .int .i64 pre] _)
  have HBW := hide (show Below w.heap.size w W0 by rw [← hW0]; exact alloc_below w _)
  have HWN := hide (windowed_any n hn64 a cap ys W0 (hl.below (unhide HBW)) hy hall (hq.below (unhide HBW)))
  have HQ := hide (hq.below (unhide HBW))
  have HM := hide hm
  have HH := hide hh
  have HBB := hide hB
  have HAL := hide hall
  have HY := hide hy
  have hn1 : n ≤ 64 := by omega
  have hn0 : 16 ≤ n := by omega
  clear hr hl hm hh hB hn64 hq
  go_enter Tryd.func36, Tryd.ntmps36
  go_wp2_with fail
  clear hW0 hF
  refine (unhide HWN).mono ?_
  rintro e w1 ⟨rfl, hc1, hb1⟩
  have HZ := hide hc1.lies
  have HB1 := hide (below_trans (unhide HBW) hb1)
  have HF1 := hide ((unhide HF).below hb1)
  have HQ1 := hide ((unhide HQ).below hb1)
  have HZS := hide (show Small (winnedL n ys) from small_mk _ _ fun i hi => by
    have hyb := allIn_at (unhide HAL) i (by rw [unhide HY]; exact hi)
    have hcb := winAt_bd n i
    have := mul_bd (ys.getD i 0) (winAt n i) 65536 16384 (by decide) (by decide) (by omega) (by omega)
    exact fhalf_in _ _ ⟨by omega, by omega⟩)
  clear hc1 hb1 HWN
  go_wp2_with fail
  refine (bins_yes _ _ n h (winnedL n ys) w1 (unhide HZ) (unhide HZS) (winned_len _ _) (unhide HH) (unhide HM) (unhide HQ1)).mono ?_
  rintro e w2 ⟨g1, g2, rfl, hr1, hr2, hb⟩
  have HR1 := hide hr1.lies
  have HR2 := hide hr2.lies
  have HB2 := hide (below_trans (unhide HB1) hb)
  have HF2 := hide ((unhide HF1).below hb)
  have HQ2 := hide ((unhide HQ1).below hb)
  have f0 := (unhide HF2).cell 0 _ rfl
  have f2 := (unhide HF2).cell 2 _ rfl
  clear hr1 hr2 hb
  obtain ⟨sh, hsh⟩ : ∃ sh, movS h (winnedL n ys) = sh := ⟨_, rfl⟩
  have hshb := fmov_bd h (winnedL n ys)
  obtain ⟨PA, hPA⟩ : ∃ PA, downL (movS h (winnedL n ys)) (partsL cosC h (winnedL n ys)) = PA := ⟨_, rfl⟩
  obtain ⟨PB, hPB⟩ : ∃ PB, downL (movS h (winnedL n ys)) (partsL sinC h (winnedL n ys)) = PB := ⟨_, rfl⟩
  have lA : PA.length = h + 1 := by rw [← hPA, show ∀ (s : Int) (xs : List Int), (downL s xs).length = xs.length from fun s xs => by simp [downL], parts_len]
  have lB : PB.length = h + 1 := by rw [← hPB, show ∀ (s : Int) (xs : List Int), (downL s xs).length = xs.length from fun s xs => by simp [downL], parts_len]
  have sA : Small PA := by rw [← hPA]; exact fdown_small _ _ (parts_small _ _ _)
  have sB : Small PB := by rw [← hPB]; exact fdown_small _ _ (parts_small _ _ _)
  rw [hPA] at HR1
  rw [hPB] at HR2
  rw [hsh] at hshb ⊢
  have hh2 : n = 2 * h := unhide HH
  have hth : (n : Int) / 2 = (h : Int) := by omega
  have hth2 : (n : Int).tdiv 2 = (h : Int) := by rw [Int.tdiv_eq_ediv_of_nonneg (by omega)]; exact hth
  obtain ⟨h1, hh1⟩ : ∃ h1, h + 1 = h1 := ⟨_, rfl⟩
  have hh1i : (h : Int) + 1 = (h1 : Int) := by omega
  have hh1w : IntKind.i64.wrap ((h : Int) + 1) = (h1 : Int) := by rw [IntKind.wrap_i64]; omega
  rw [hh1] at lA lB ⊢
  have lP : (powL PA PB).length = h1 := by rw [powL_len, lA, lB]; omega
  have eE : edgesI (h1 : Int) (B : Int) = edgesL h1 B := edgesI_yes h1 B (by omega) (by omega) (by omega) (by omega)
  have lE : (edgesL h1 B).length = B + 2 := by rw [edgesL, mkL_len]
  have lN : (bandsL (powL PA PB) (edgesL h1 B)).length = B := by rw [bands_len, lE]; omega
  have HFR := hide (show frameI n B C ys = dctL C (mkL B fun m => (logsL (bandsL (powL PA PB) (edgesL h1 B))).getD m 0 + 512 * sh) by
    unfold frameI loudL
    rw [show n / 2 = h by omega, hPA, hPB, hsh, hh1])
  have HLEN := hide (And.intro lA (And.intro lB (And.intro sA (And.intro sB (And.intro lP (And.intro lE lN))))))
  have HEE := hide eE
  have HE1 := hide (And.intro (show 2 ≤ h1 by omega) (show h1 ≤ 65 by omega))
  have HI1 := hide (show In64 (h1 : Int) from ⟨by omega, by omega⟩)
  have HI2 := hide (show In64 (B : Int) from ⟨by omega, by omega⟩)
  clear hPA hPB hsh lA lB sA sB lP eE lE lN hh2
  go_wp2_with fail
  refine (edges_any (h1 : Int) (B : Int) w2 (unhide HI1) (unhide HI2)).mono ?_
  rintro e w3 hT
  rw [unhide HEE] at hT
  obtain ⟨aE, nE, cE, rfl, hnE, hlE, hb3⟩ := hT
  obtain rfl : B + 2 = nE := (unhide HLEN).2.2.2.2.2.1.symm.trans hnE
  have HLE := hide hlE
  have HB3 := hide (below_trans (unhide HB2) hb3)
  have HF3 := hide ((unhide HF2).below hb3)
  have HQ3 := hide ((unhide HQ2).below hb3)
  have HR13 := hide ((unhide HR1).below hb3)
  have HR23 := hide ((unhide HR2).below hb3)
  clear hlE hb3 hnE HR1 HR2 f0 f2
  go_wp2_with fail
  refine (power_any _ _ h1 h1 _ _ PA PB w3 (unhide HR13) (unhide HR23) (unhide HLEN).2.2.1 (unhide HLEN).2.2.2.1 (unhide HLEN).1 (unhide HLEN).2.1 (by omega) (by omega)).mono ?_
  rintro e w4 ⟨aP, nP, cP, rfl, hnP, hlP, hb4⟩
  obtain rfl : h1 = nP := (unhide HLEN).2.2.2.2.1.symm.trans hnP
  have HLP := hide hlP
  have HLE4 := hide ((unhide HLE).below hb4)
  have HB4 := hide (below_trans (unhide HB3) hb4)
  have HF4 := hide ((unhide HF3).below hb4)
  have HQ4 := hide ((unhide HQ3).below hb4)
  clear hlP hb4 hnP
  go_wp2_with fail
  refine (bands_any _ _ h1 (powL PA PB) _ _ (B + 2) (edgesL h1 B) w4 (unhide HLP) (fpow_small _ _) (unhide HLEN).2.2.2.2.1 (by omega) (unhide HLE4) (fedges_small h1 B (unhide HE1).1 (unhide HE1).2) (unhide HLEN).2.2.2.2.2.1 (by omega)).mono ?_
  rintro e w5 ⟨aN, nN, cN, rfl, hnN, hlN, hb5⟩
  obtain rfl : B = nN := (unhide HLEN).2.2.2.2.2.2.symm.trans hnN
  have HLN := hide hlN
  have HB5 := hide (below_trans (unhide HB4) hb5)
  have HF5 := hide ((unhide HF4).below hb5)
  have HQ5 := hide ((unhide HQ4).below hb5)
  clear hlN hb5 hnN
  go_wp2_with fail
  refine (logs_cells _ _ B (bandsL (powL PA PB) (edgesL h1 B)) w5 (unhide HLN) (fbands_small _ _) (unhide HLEN).2.2.2.2.2.2 (by omega)).mono ?_
  rintro e w6 ⟨gl, rfl, hgl, hcl, hb6⟩
  have HOL := hide hcl
  have HB6 := hide (below_trans (unhide HB5) hb6)
  have HF6 := hide ((unhide HF5).below hb6)
  have HQ6 := hide ((unhide HQ5).below hb6)
  have HSZ := hide (show F < gl ∧ w.heap.size ≤ gl by
    have e1 := (unhide HF5).lt
    have e2 := (unhide HB5).size
    omega)
  clear hcl hb6 hgl
  obtain ⟨LG, hLG⟩ : ∃ LG, logsL (bandsL (powL PA PB) (edgesL h1 B)) = LG := ⟨_, rfl⟩
  rw [hLG] at HOL HFR
  have hLl : LG.length = B := by rw [← hLG, logs_len]; exact (unhide HLEN).2.2.2.2.2.2
  have HLB := hide (show ∀ m, m < B → 0 ≤ LG.getD m 0 ∧ LG.getD m 0 < 16384 from fun m hm => by
    rw [← hLG, logs_at _ _ (by rw [(unhide HLEN).2.2.2.2.2.2]; exact hm)]
    have := more_facts _ ((fbands_small (powL PA PB) (edgesL h1 B)).all m)
    exact ⟨this.1, this.2.1⟩)
  have hLM : LG = mkL B fun m => LG.getD m 0 := (mkL_eq LG B (fun m => LG.getD m 0) hLl fun _ _ => rfl).symm
  have HOM := hide (show Cells w6 gl (ints (dmixF B (fun m => LG.getD m 0 + 512 * sh) (fun m => LG.getD m 0) 0)) by
    rw [dmixF_zero, ← hLM]; exact unhide HOL)
  clear hLG hLl hLM HOL HLEN HEE
  go_wp2
  go_loopw [35] (fun i wr => ∃ m : Nat, m ≤ B ∧ i = .int .i64 (m : Int) ∧ Hid (Cells wr gl (ints (dmixF B (fun m => LG.getD m 0 + 512 * sh) (fun m => LG.getD m 0) m))) ∧ Hid (Below gl w6 wr))
    (fun i _ => B - (intOf i).toNat)
  case atStart => exact ⟨0, by omega, rfl, HOM, Below.refl _ _⟩
  case round =>
    obtain ⟨m, hm, rfl, HOr, HBr⟩ := hrel
    have k3 : wr.cell? ⟨F, 3, none⟩ = some (.int .i64 (C : Int)) := ((unhide HBr).cell (p := ⟨F, 3, none⟩) (unhide HSZ).1).trans ((unhide HF6).cell 3 _ rfl)
    by_cases hlt2 : m < B
    · obtain ⟨x, hx⟩ : ∃ x, LG.getD m 0 = x := ⟨_, rfl⟩
      have hxb := unhide HLB m hlt2
      rw [hx] at hxb
      have hcell := (unhide HOr).cell m (.int .i64 x) (by rw [ints_at _ m (by rw [dmixF_len]; exact hlt2), dmixF_at _ _ _ _ hlt2, hx])
      have hfree := (unhide HOr).free m
      have HX := hide (dmixF_set B (fun m => LG.getD m 0 + 512 * sh) (fun m => LG.getD m 0) m (x + 512 * sh) hlt2 (by show LG.getD m 0 + 512 * sh = _; rw [hx]))
      have hmB : (m : Int) < (B : Int) := by omega
      clear hx k3
      go_wp2_with fail
      go_roundw
      case rel =>
        refine ⟨m + 1, by omega, by simp, ?_, (unhide HBr).setCell (Nat.le_refl _) _⟩
        have := (unhide HOr).set m (.int .i64 (x + 512 * sh))
        rw [ints_set, unhide HX] at this
        exact this
      case measure => simp [intOf]; omega
    · obtain rfl : m = B := by omega
      rw [dmixF_all] at HOr
      have HLF := hide (unhide HOr).lies
      have HSS := hide (show Small (mkL m fun m => LG.getD m 0 + 512 * sh) from small_mk _ _ fun i hi => by have := unhide HLB i hi; constructor <;> omega)
      have hbb := (unhide HB6).trans ((unhide HBr).mono (unhide HSZ).2)
      have HB7 := hide (show Below w.heap.size w wr from hbb)
      have HQ7 := hide (show Quar wr from ⟨by have := (unhide HQ6).1; have := (unhide HBr).size; have := (unhide HF6).lt; have := (unhide HSZ).1; omega, fun i hi => ((unhide HBr).cell (p := ⟨0, i, none⟩) (by have := (unhide HSZ).1; show 0 < gl; omega)).trans ((unhide HQ6).2 i hi)⟩)
      clear HOr HOM hbb
      go_wp2_with fail
      refine (dct_own _ _ m C (mkL m fun m => LG.getD m 0 + 512 * sh) wr (mkL_len _ _) (unhide HBB) hC1 hC2 (unhide HLF) (unhide HSS) (unhide HQ7)).mono ?_
      rintro e w12 ⟨g7, rfl, hg7, hlies7, hb7⟩
      have HLI7 := hide hlies7
      have HB12 := hide (below_trans (unhide HB7) hb7)
      have HG7 := hide (show w.heap.size ≤ g7 by have := (unhide HB7).size; omega)
      clear hlies7 hb7 hg7
      go_wp2_with fail
      go_ret
      exact ⟨_, rfl, unhide HG7, by rw [unhide HFR]; exact unhide HLI7, unhide HB12⟩
end Go.Proofs.YtbkdgpeooeokmaaDoor
