/- DctFlat: the walk. -/
import Derived.Test.YtednmdammpkoeaaDoorDctRowsw
namespace Go.Proofs.YtednmdammpkoeaaDoor
open Go.RowKit
set_option linter.unusedVariables false

theorem dct_row_all (a : Option Addr) (len cap : Nat) (zs : List Int) (w : World) (h : IsRow .i64 w a len cap zs) :
    ∃ xs : List Int, xs.length = len ∧ len ≤ 9223372036854775807 ∧ Lies w a xs ∧ Small xs := by
  rcases h with ⟨rfl, rfl, rfl, rfl⟩ | ⟨x, rfl, hl, hm, hz, hcell, hwz⟩
  · exact ⟨[], by simp, by omega, .inl rfl, by intro x hx; simp at hx⟩
  · unfold maxLen at hm
    exact ⟨zs.take len, by rw [List.length_take]; omega, by omega, lies_of_row len (by omega) hcell, small_take len hwz⟩
theorem mk_take (n k : Nat) (f : Nat → Int) (h : k ≤ n) : (mkL n f).take k = mkL k f := by
  simp [mkL, ← List.map_take, List.take_range, Nat.min_eq_left h]
theorem lies_take {w : World} {a : Option Addr} {xs : List Int} (h : Lies w a xs) (n : Nat) : Lies w a (xs.take n) := by
  rcases h with rfl | ⟨b, off, ha, hlt, hc⟩
  · exact .inl (by simp)
  · refine .inr ⟨b, off, ha, hlt, fun j hj => ?_⟩
    rw [List.length_take] at hj
    rw [hc j (by omega)]
    congr 2
    simp [List.getD_eq_getElem?_getD, show j < n by omega]
theorem flat_at (n : Nat) (y : Int) (m : Nat) (h : m < n) : (mkL n fun _ => y).getD m 0 = y := mkL_at _ _ _ h

set_option maxRecDepth 100000 in
theorem dctflat_walk (x : Int) (a : Option Addr) (len cap : Nat) (zs : List Int) (q0 q1 : Int) (w : World) (hx : In64 x) (h1 : IsRow .i64 w a len cap zs) (h2 : In64 q0) (h3 : In64 q1) (hq : Quar w) :
    Calls Tryd.prog 6 #[.int .i64 x, .slice a len cap, .agg #[.int .i64 q0, .int .i64 q1]] w fun e w' => e = .returned (.bool true) ∧ Below w.heap.size w w' := by
  obtain ⟨i0, hi, hz0, hz1, hz2⟩ := info_parts Tryd.info3
  obtain ⟨xs, hlen, hl63, hlx, hsx⟩ := dct_row_all a len cap zs w h1
  obtain ⟨N, hN, _, hsz⟩ := sized_all q0 h2
  have hN16 := (mayD_le hN).2
  have hN4 := (mayD_le hN).1
  obtain ⟨k, hk, hkb⟩ := and_mayD q1 N hN
  obtain ⟨k1, hk1⟩ : ∃ k1, k + 1 = k1 := ⟨_, rfl⟩
  have hk1i : (1 : Int) + (k : Int) = (k1 : Int) := by omega
  have HK1 := hide hk1
  obtain ⟨y, hy⟩ : ∃ y, x / 16777216 = y := ⟨_, rfl⟩
  have hyb : -1099511627776 ≤ y ∧ y ≤ 1099511627776 := by unfold In64 at hx; omega
  obtain ⟨P, hP⟩ : ∃ P, (N : Int) * y = P := ⟨_, rfl⟩
  have hPb := mul_bd (N : Int) y 16 1099511627776 (by decide) (by decide) (by omega) hyb
  rw [hP] at hPb
  have HP := hide hP
  clear hk1
  have HNM := hide hN
  have HN := hide hlen
  have HL := hide hlx
  have HS := hide hsx
  have HSZ := hide hsz
  have HQ := hide hq
  obtain ⟨W0, hW0⟩ : ∃ W0, w.alloc (.cells #[.int .i64 q0, .int .i64 q1] 23) = W0 := ⟨_, rfl⟩
  obtain ⟨B, hB⟩ : ∃ B, w.heap.size = B := ⟨_, rfl⟩
  have hcs : W0.cell? ⟨B, 0, none⟩ = some (.int .i64 q0) ∧ W0.cell? ⟨B, 1, none⟩ = some (.int .i64 q1) := by
    rw [← hW0, ← hB]
    refine ⟨?_, ?_⟩ <;> (rw [World.cell?_alloc_at _ _ _ _ rfl]; rfl)
  have HC := hide hcs
  have HBW := hide (show Below w.heap.size w W0 by rw [← hW0]; exact alloc_below w _)
  have HSZB := hide (show B < W0.heap.size by rw [← hW0, ← hB]; simp)
  clear h1 hlen hlx hsx hsz hq hN hcs
  go_enter Tryd.func6, Tryd.ntmps6
  go_wp2_with fail
  have HB' := hide hB
  clear hW0 hB
  refine (dct_awake W0 ((unhide HQ).below (unhide HBW))).mono ?_
  rintro e w1 ⟨rfl, hb⟩
  have HCB := hide hb
  have HB1 := hide (below_trans (unhide HBW) hb)
  have k0 : w1.cell? ⟨B, 0, none⟩ = some (.int .i64 q0) := ((unhide HCB).cell (p := ⟨B, 0, none⟩) (unhide HSZB)).trans (unhide HC).1
  clear hb
  go_wp2_with fail
  refine (unhide HSZ _ _ _ xs _ ((unhide HL).below (unhide HB1)) (unhide HN)).mono ?_
  rintro e w2 ⟨g, rfl, hg, hc, hb⟩
  have HV := hide hc.lies
  have HCB2 := hide ((unhide HCB).trans (hb.mono (unhide HCB).size))
  have HB2 := hide (below_trans (unhide HB1) hb)
  clear hg hc hb k0
  go_wp2_with (at_make; refine wpList_make_full _ rfl _ _ 22 rfl w2.heap.size 3 i0 (.int .i64 0) 1 Tryd.underlying22 hi hz0 hz1 _ _ _ _ N rfl rfl rfl rfl ?m1 ?m2 ?m3 ?_)
  case m1 => rw [hz2]; omega
  case m2 => unfold maxLen; omega
  case m3 => exact Nat.le_refl _
  intro w3 hown hgr
  rw [ints_zero, fill_zero N fun _ => y] at hown
  have HO := hide (own_cells hown)
  have HB3 := hide ((Below.refl w2.heap.size w2).grown hgr (Nat.le_refl _) (fun _ h => by cases h))
  clear hown hgr
  go_wp2
  go_loopw [11] (fun j wr => ∃ m : Nat, m ≤ N ∧ j = .int .i64 (m : Int) ∧ Hid (Cells wr w2.heap.size (ints (fillL N (fun _ => y) m))) ∧ Hid (Below w2.heap.size w2 wr))
    (fun j _ => N - (intOf j).toNat)
  case atStart => exact ⟨0, by omega, rfl, HO, HB3⟩
  case round =>
    obtain ⟨m, hm, rfl, HOr, HBr⟩ := hrel
    by_cases hlt : m < N
    · have hcell := (unhide HOr).cell m _ (ints_at _ m (by rw [fill_len]; exact hlt))
      have hfree := (unhide HOr).free m
      have HX := hide (fill_set N (fun _ => y) m y hlt rfl)
      clear HO HB3
      go_wp2
      go_roundw
      case rel =>
        refine ⟨m + 1, by omega, by simp, ?_, (unhide HBr).setCell (Nat.le_refl _) _⟩
        have := (unhide HOr).set m (.int .i64 y)
        rw [ints_set, unhide HX] at this
        exact this
      case measure => simp [intOf]; omega
    · obtain rfl : m = N := by omega
      rw [fill_all] at HOr
      have HF := hide (unhide HOr).lies
      have HB4 := hide (below_trans (unhide HB2) (unhide HBr))
      have HCB4 := hide ((unhide HCB2).trans ((unhide HBr).mono (unhide HCB2).size))
      have HV4 := hide ((unhide HV).below (unhide HBr))
      obtain ⟨w4, rfl⟩ : ∃ w4, w4 = wr := ⟨_, rfl⟩
      clear HO HB3 HOr HBr
      go_wp2_with fail
      refine (dct_yes _ _ m m (mkL m fun _ => y) w4 (mkL_len _ _) (unhide HNM) (by omega) (by omega) (unhide HF) (small_mk _ _ fun _ _ => by unfold In64; omega) ((unhide HQ).below (unhide HB4))).mono ?_
      rintro e w5 ⟨g1, rfl, hl1, hb⟩
      have HL1 := hide hl1
      have HB5 := hide (below_trans (unhide HB4) hb)
      have HCB5 := hide ((unhide HCB4).trans (hb.mono (unhide HCB4).size))
      have HV5 := hide ((unhide HV4).below hb)
      clear hl1 hb
      go_wp2_with fail
      refine (dct_yes _ _ m m (sizedL xs m) w5 (sized_len _ _) (unhide HNM) (by omega) (by omega) (unhide HV5) (sized_small _ _ (unhide HS)) ((unhide HQ).below (unhide HB5))).mono ?_
      rintro e w6 ⟨g2, rfl, hl2, hb⟩
      have HL2 := hide hl2
      have HL1b := hide ((unhide HL1).below hb)
      have HB6 := hide (below_trans (unhide HB5) hb)
      have HCB6 := hide ((unhide HCB5).trans (hb.mono (unhide HCB5).size))
      have HV6 := hide ((unhide HV5).below hb)
      have k0 : w6.cell? ⟨B, 1, none⟩ = some (.int .i64 q1) := ((unhide HCB6).cell (p := ⟨B, 1, none⟩) (unhide HSZB)).trans (unhide HC).2
      clear hl2 hb HL1 HV5
      go_wp2_with fail
      refine (dct_yes _ _ m k1 (sizedL xs m) w6 (sized_len _ _) (unhide HNM) (by omega) (by have := unhide HK1; omega) (unhide HV6) (sized_small _ _ (unhide HS)) ((unhide HQ).below (unhide HB6))).mono ?_
      rintro e w7 ⟨g3, rfl, hl3, hb⟩
      have HL3 := hide hl3
      have HL1c := hide ((unhide HL1b).below hb)
      have HL2c := hide ((unhide HL2).below hb)
      have HB7 := hide (below_trans (unhide HB6) hb)
      clear hl3 hb HL1b HL2 HV6 k0
      go_wp2
      go_loopw [16] (fun j wr => ∃ t : Nat, t ≤ m ∧ j = .int .i64 (t : Int) ∧ Hid (∃ d, wr = w7.drewN d))
        (fun j _ => m - (intOf j).toNat)
      case atStart => exact ⟨0, by omega, rfl, 0, rfl⟩
      case round =>
        obtain ⟨t, ht, rfl, HD⟩ := hrel
        obtain ⟨wr2, rfl⟩ : ∃ x, x = wr := ⟨_, rfl⟩
        by_cases hlt2 : t < m
        · obtain ⟨b1, o1, hbo, hlt1, hc1⟩ := (unhide HL1c).some (by intro h; have := dct_len m (mkL m fun _ => y); rw [h] at this; simp at this; omega)
          cases hbo
          obtain ⟨z, hz⟩ : ∃ z, coefI t (mkL m fun _ => y) = z := ⟨_, rfl⟩
          have hzz := coef_flat t (mkL m fun _ => y) m y (mkL_len _ _) (unhide HNM) hlt2 (fun i hi => flat_at m y i hi) hyb.1 hyb.2
          rw [hz] at hzz
          have cz : wr2.cell? ⟨g1, t, none⟩ = some (.int .i64 z) := by
            obtain ⟨d, rfl⟩ := unhide HD
            have := hc1 t (by rw [dct_len]; exact hlt2)
            rw [dct_at _ _ _ hlt2, hz, Nat.zero_add] at this
            exact this
          clear hc1 hz
          by_cases c0 : t = 0
          · subst c0
            rw [if_pos rfl, hP] at hzz
            subst hzz
            go_wp2_with fail
            go_roundw
            case rel => exact ⟨1, by omega, by simp, HD⟩
            case measure => simp [intOf]; omega
          · rw [if_neg c0] at hzz
            subst hzz
            have e0 : (t == 0) = false := by simp; exact c0
            have e1 : 0 < t := by omega
            go_wp2_with fail
            go_roundw
            case rel => exact ⟨t + 1, by omega, by simp, HD⟩
            case measure => simp [intOf]; omega
        · obtain rfl : t = m := by omega
          have hbd : Below w7.heap.size w7 wr2 := by obtain ⟨d, rfl⟩ := unhide HD; exact below_drewN w7 d
          have hkm : k1 ≤ t := by have := unhide HK1; omega
          have HA := hide ((unhide HL3).below hbd)
          have HA2 := hide (show Lies wr2 (some ⟨g2, 0, none⟩) (dctL k1 (sizedL xs t)) by
            have := lies_take ((unhide HL2c).below hbd) k1
            rw [dctL, mk_take _ _ _ hkm] at this
            exact this)
          have HB8 := hide (below_trans (unhide HB7) hbd)
          clear hbd HL3 HL2c HL1c
          go_wp2_with fail
          refine (same_any _ _ _ _ (dctL k1 (sizedL xs t)) k1 (dct_len _ _) (by omega) _ (unhide HA) (unhide HA2)).mono ?_
          rintro e w9 ⟨rfl, hb⟩
          have HB9 := hide (below_trans (unhide HB8) hb)
          clear hb
          go_wp2_with fail
          go_ret
          exact ⟨rfl, unhide HB9⟩
end Go.Proofs.YtednmdammpkoeaaDoor
