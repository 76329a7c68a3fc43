/- Windows: the rows that the loops hold. -/
import Derived.Test.YtnncemagiobcbaaDoorCos
namespace Go.Proofs.YtnncemagiobcbaaDoor
open Go.RowKit
set_option linter.unusedVariables false

/-- A window's cells when k of them are made. -/
def mixL (n k : Nat) : List Value := ((List.range n).map fun j => if j < k then winAt n j else 0).map (Value.int .i64)
theorem mix_len (n k : Nat) : (mixL n k).length = n := by simp [mixL]
theorem mix_at (n k j : Nat) (h : j < n) : (mixL n k)[j]? = some (.int .i64 (if j < k then winAt n j else 0)) := by
  simp [mixL, List.getElem?_map, List.getElem?_range h]
theorem mix_zero (n : Nat) : (madeCells (Value.cells (.int .i64 0)) (n * 1)).toList = mixL n 0 := by
  show (madeCells #[.int .i64 0] (n * 1)).toList = _
  rw [toList_madeCells_one, Nat.mul_one]
  apply List.ext_getElem?
  intro j
  by_cases c : j < n
  · rw [mix_at n 0 j c, List.getElem?_replicate, if_pos c]; simp
  · rw [List.getElem?_eq_none (by simp; omega), List.getElem?_eq_none (by rw [mix_len]; omega)]
theorem mix_succ (n k : Nat) (h : k < n) : (mixL n k).set k (.int .i64 (winAt n k)) = mixL n (k + 1) := by
  apply List.ext_getElem?
  intro j
  by_cases c : j < n
  · rw [mix_at n (k + 1) j c, List.getElem?_set, mix_at n k j c, mix_len]
    by_cases e : k = j
    · subst e; rw [if_pos rfl, if_pos h, if_pos (by omega)]
    · rw [if_neg e]; congr 2; by_cases g : j < k
      · rw [if_pos g, if_pos (by omega)]
      · rw [if_neg g, if_neg (by omega)]
  · rw [List.getElem?_eq_none (by rw [List.length_set, mix_len]; omega), List.getElem?_eq_none (by rw [mix_len]; omega)]
def winOf (n : Nat) : List Int := (List.range n).map (winAt n)
theorem mix_all (n : Nat) : mixL n n = (winOf n).map (Value.int .i64) := by
  unfold mixL winOf
  congr 1
  apply List.map_congr_left
  intro j hj
  rw [if_pos (by simpa using hj)]
theorem winOf16 : winOf 16 = win16 := by decide +kernel
theorem winOf32 : winOf 32 = win32 := by decide +kernel
theorem winOf64 : winOf 64 = win64 := by decide +kernel

theorem owns_below {w w' : World} {base n : Nat} {v : Value} {xs : List Value} (h : w.ownsRow base 3 1 v n xs) (hb : Below w.heap.size w w') : w'.ownsRow base 3 1 v n xs := by
  refine ⟨h.1, ?_⟩
  rcases h.2 with h' | ⟨g, cap, cur, h1, h2, h3, h4⟩
  · exact .inl h'
  · exact .inr ⟨g, cap, cur, h1, h2, by rw [hb.block g (by have := Array.getElem?_eq_some_iff.1 h3; exact this.1)]; exact h3, h4⟩

theorem half_bd (j : Nat) : -7537 ≤ halfI (7537 * cosAt j) 14 ∧ halfI (7537 * cosAt j) 14 ≤ 7537 := by
  by_cases c : j < 64
  · have : ∀ j, j < 64 → -7537 ≤ halfI (7537 * cosAt j) 14 ∧ halfI (7537 * cosAt j) 14 ≤ 7537 := by decide +kernel
    exact this j c
  · have hl : cosL.length = 64 := by decide +kernel
    have : cosAt j = 0 := by unfold cosAt; rw [List.getD_eq_getElem?_getD, List.getElem?_eq_none (by omega)]; rfl
    rw [this]; decide +kernel

set_option maxRecDepth 100000 in
theorem win_16 (w : World) (hq : Quar w) :
    Calls Tryd.prog 10 #[.int .i64 16] w fun e w' => ∃ a cap, e = .returned (.slice a 16 cap) ∧ Lies w' a (winOf 16) ∧ Below w.heap.size w w' := by
  obtain ⟨i0, hi, hz0, hz1, hz2⟩ := info_parts Tryd.info3
  have HQ := hide hq
  clear hq
  go_enter Tryd.func10, Tryd.ntmps10
  go_wp2_with (at_make; refine wpList_make_full _ rfl _ _ 24 rfl w.heap.size 3 i0 (.int .i64 0) 1 Tryd.underlying24 hi hz0 hz1 _ _ _ _ 16 rfl rfl rfl rfl ?m1 ?m2 ?m3 ?_)
  case m1 => rw [hz2]; decide
  case m2 => decide
  case m3 => exact Nat.le_refl _
  intro w1 hown hgr
  have HO := hide (show w1.ownsRow w.heap.size 3 1 (.slice (some ⟨w.heap.size, 0, none⟩) 16 16) 16 (mixL 16 0) by rw [← mix_zero]; exact hown)
  have HB := hide ((Below.refl w.heap.size w).grown hgr (Nat.le_refl _) (fun _ h => by cases h))
  clear hown hgr
  go_wp2
  go_loopw [14] (fun i wr => ∃ k : Nat, k ≤ 16 ∧ i = .int .i64 k ∧ Hid (wr.ownsRow w.heap.size 3 1 (.slice (some ⟨w.heap.size, 0, none⟩) 16 16) 16 (mixL 16 k)) ∧ Hid (Below w.heap.size w wr))
    (fun i _ => 16 - (intOf i).toNat)
  case atStart => exact ⟨0, by decide, rfl, HO, HB⟩
  case round =>
    obtain ⟨k, hk, rfl, HOr, HBr⟩ := hrel
    obtain ⟨j, hj, hj2⟩ : ∃ j : Nat, j = k * 64 / 16 ∧ ((k : Int) * 64 / 16) = (j : Int) := ⟨_, rfl, by omega⟩
    have HJ := hide hj2
    have h64 : k < 16 → j < 64 := fun _ => by omega
    have HW := hide (show winAt 16 k = 8847 - halfI (7537 * cosAt j) 14 by subst hj; rfl)
    clear hj hj2
    go_wp2_with fail
    · have hlt : k < 16 := by omega
      rw [unhide HJ]
      refine (cos_any j _ (by have := h64 hlt; unfold In64; omega) ((unhide HQ).below (unhide HBr))).mono ?_
      rintro e w2 ⟨rfl, hb2⟩
      rw [cosI_at j (h64 hlt)]
      have hcb := cosAt_bd j
      have hhb := half_bd j
      generalize cosAt j = c at HW hcb hhb ⊢
      have HO2 := hide (owns_below (unhide HOr) hb2)
      have HB2 := hide ((unhide HBr).trans (hb2.mono (unhide HBr).size))
      clear HOr HBr hb2
      go_wp2_with fail
      refine (half_any (7537 * c) 14 _ (by unfold In64; omega)).mono ?_
      rintro e w3 ⟨rfl, hb3⟩
      generalize halfI (7537 * c) 14 = z at HW hhb ⊢
      have HO3 := hide (owns_below (unhide HO2) hb3)
      have HB3 := hide ((unhide HB2).trans (hb3.mono (unhide HB2).size))
      have hcell := (unhide HO3).cellAt k (by omega)
      rw [mix_at 16 k k hlt] at hcell
      have hfree := (unhide HO3).frozenAt k
      clear HO2 HB2 hb3
      go_wp2
      go_roundw
      case rel =>
        refine ⟨k + 1, by omega, by simp, ?_, ?_⟩
        · have h := ((unhide HO3).stored k (.int .i64 (8847 - z))).1
          rw [← unhide HW, mix_succ 16 k hlt] at h
          rw [← unhide HW]
          exact h
        · exact (unhide HB3).setCell (Nat.le_refl _) _
      case measure => simp [intOf]; omega
    · have hkn : k = 16 := by omega
      subst hkn
      rw [mix_all] at HOr
      obtain ⟨a, cap, hv, hl, hn⟩ := owned_lies (unhide HOr)
      go_ret
      refine ⟨_, _, rfl, ?_, unhide HBr⟩
      cases hv
      exact hl

set_option maxRecDepth 100000 in
theorem win_32 (w : World) (hq : Quar w) :
    Calls Tryd.prog 10 #[.int .i64 32] w fun e w' => ∃ a cap, e = .returned (.slice a 32 cap) ∧ Lies w' a (winOf 32) ∧ Below w.heap.size w w' := by
  obtain ⟨i0, hi, hz0, hz1, hz2⟩ := info_parts Tryd.info3
  have HQ := hide hq
  clear hq
  go_enter Tryd.func10, Tryd.ntmps10
  go_wp2_with (at_make; refine wpList_make_full _ rfl _ _ 24 rfl w.heap.size 3 i0 (.int .i64 0) 1 Tryd.underlying24 hi hz0 hz1 _ _ _ _ 32 rfl rfl rfl rfl ?m1 ?m2 ?m3 ?_)
  case m1 => rw [hz2]; decide
  case m2 => decide
  case m3 => exact Nat.le_refl _
  intro w1 hown hgr
  have HO := hide (show w1.ownsRow w.heap.size 3 1 (.slice (some ⟨w.heap.size, 0, none⟩) 32 32) 32 (mixL 32 0) by rw [← mix_zero]; exact hown)
  have HB := hide ((Below.refl w.heap.size w).grown hgr (Nat.le_refl _) (fun _ h => by cases h))
  clear hown hgr
  go_wp2
  go_loopw [14] (fun i wr => ∃ k : Nat, k ≤ 32 ∧ i = .int .i64 k ∧ Hid (wr.ownsRow w.heap.size 3 1 (.slice (some ⟨w.heap.size, 0, none⟩) 32 32) 32 (mixL 32 k)) ∧ Hid (Below w.heap.size w wr))
    (fun i _ => 32 - (intOf i).toNat)
  case atStart => exact ⟨0, by decide, rfl, HO, HB⟩
  case round =>
    obtain ⟨k, hk, rfl, HOr, HBr⟩ := hrel
    obtain ⟨j, hj, hj2⟩ : ∃ j : Nat, j = k * 64 / 32 ∧ ((k : Int) * 64 / 32) = (j : Int) := ⟨_, rfl, by omega⟩
    have HJ := hide hj2
    have h64 : k < 32 → j < 64 := fun _ => by omega
    have HW := hide (show winAt 32 k = 8847 - halfI (7537 * cosAt j) 14 by subst hj; rfl)
    clear hj hj2
    go_wp2_with fail
    · have hlt : k < 32 := by omega
      rw [unhide HJ]
      refine (cos_any j _ (by have := h64 hlt; unfold In64; omega) ((unhide HQ).below (unhide HBr))).mono ?_
      rintro e w2 ⟨rfl, hb2⟩
      rw [cosI_at j (h64 hlt)]
      have hcb := cosAt_bd j
      have hhb := half_bd j
      generalize cosAt j = c at HW hcb hhb ⊢
      have HO2 := hide (owns_below (unhide HOr) hb2)
      have HB2 := hide ((unhide HBr).trans (hb2.mono (unhide HBr).size))
      clear HOr HBr hb2
      go_wp2_with fail
      refine (half_any (7537 * c) 14 _ (by unfold In64; omega)).mono ?_
      rintro e w3 ⟨rfl, hb3⟩
      generalize halfI (7537 * c) 14 = z at HW hhb ⊢
      have HO3 := hide (owns_below (unhide HO2) hb3)
      have HB3 := hide ((unhide HB2).trans (hb3.mono (unhide HB2).size))
      have hcell := (unhide HO3).cellAt k (by omega)
      rw [mix_at 32 k k hlt] at hcell
      have hfree := (unhide HO3).frozenAt k
      clear HO2 HB2 hb3
      go_wp2
      go_roundw
      case rel =>
        refine ⟨k + 1, by omega, by simp, ?_, ?_⟩
        · have h := ((unhide HO3).stored k (.int .i64 (8847 - z))).1
          rw [← unhide HW, mix_succ 32 k hlt] at h
          rw [← unhide HW]
          exact h
        · exact (unhide HB3).setCell (Nat.le_refl _) _
      case measure => simp [intOf]; omega
    · have hkn : k = 32 := by omega
      subst hkn
      rw [mix_all] at HOr
      obtain ⟨a, cap, hv, hl, hn⟩ := owned_lies (unhide HOr)
      go_ret
      refine ⟨_, _, rfl, ?_, unhide HBr⟩
      cases hv
      exact hl

set_option maxRecDepth 100000 in
theorem win_64 (w : World) (hq : Quar w) :
    Calls Tryd.prog 10 #[.int .i64 64] w fun e w' => ∃ a cap, e = .returned (.slice a 64 cap) ∧ Lies w' a (winOf 64) ∧ Below w.heap.size w w' := by
  obtain ⟨i0, hi, hz0, hz1, hz2⟩ := info_parts Tryd.info3
  have HQ := hide hq
  clear hq
  go_enter Tryd.func10, Tryd.ntmps10
  go_wp2_with (at_make; refine wpList_make_full _ rfl _ _ 24 rfl w.heap.size 3 i0 (.int .i64 0) 1 Tryd.underlying24 hi hz0 hz1 _ _ _ _ 64 rfl rfl rfl rfl ?m1 ?m2 ?m3 ?_)
  case m1 => rw [hz2]; decide
  case m2 => decide
  case m3 => exact Nat.le_refl _
  intro w1 hown hgr
  have HO := hide (show w1.ownsRow w.heap.size 3 1 (.slice (some ⟨w.heap.size, 0, none⟩) 64 64) 64 (mixL 64 0) by rw [← mix_zero]; exact hown)
  have HB := hide ((Below.refl w.heap.size w).grown hgr (Nat.le_refl _) (fun _ h => by cases h))
  clear hown hgr
  go_wp2
  go_loopw [14] (fun i wr => ∃ k : Nat, k ≤ 64 ∧ i = .int .i64 k ∧ Hid (wr.ownsRow w.heap.size 3 1 (.slice (some ⟨w.heap.size, 0, none⟩) 64 64) 64 (mixL 64 k)) ∧ Hid (Below w.heap.size w wr))
    (fun i _ => 64 - (intOf i).toNat)
  case atStart => exact ⟨0, by decide, rfl, HO, HB⟩
  case round =>
    obtain ⟨k, hk, rfl, HOr, HBr⟩ := hrel
    have HW := hide (show winAt 64 k = 8847 - halfI (7537 * cosAt k) 14 by unfold winAt; rw [Nat.mul_div_cancel _ (by decide)])
    go_wp2_with fail
    · have hlt : k < 64 := by omega
      refine (cos_any k _ (by unfold In64; omega) ((unhide HQ).below (unhide HBr))).mono ?_
      rintro e w2 ⟨rfl, hb2⟩
      rw [cosI_at k hlt]
      have hcb := cosAt_bd k
      have hhb := half_bd k
      generalize cosAt k = c at HW hcb hhb ⊢
      have HO2 := hide (owns_below (unhide HOr) hb2)
      have HB2 := hide ((unhide HBr).trans (hb2.mono (unhide HBr).size))
      clear HOr HBr hb2
      go_wp2_with fail
      refine (half_any (7537 * c) 14 _ (by unfold In64; omega)).mono ?_
      rintro e w3 ⟨rfl, hb3⟩
      generalize halfI (7537 * c) 14 = z at HW hhb ⊢
      have HO3 := hide (owns_below (unhide HO2) hb3)
      have HB3 := hide ((unhide HB2).trans (hb3.mono (unhide HB2).size))
      have hcell := (unhide HO3).cellAt k (by omega)
      rw [mix_at 64 k k hlt] at hcell
      have hfree := (unhide HO3).frozenAt k
      clear HO2 HB2 hb3
      go_wp2
      go_roundw
      case rel =>
        refine ⟨k + 1, by omega, by simp, ?_, ?_⟩
        · have h := ((unhide HO3).stored k (.int .i64 (8847 - z))).1
          rw [← unhide HW, mix_succ 64 k hlt] at h
          rw [← unhide HW]
          exact h
        · exact (unhide HB3).setCell (Nat.le_refl _) _
      case measure => simp [intOf]; omega
    · have hkn : k = 64 := by omega
      subst hkn
      rw [mix_all] at HOr
      obtain ⟨a, cap, hv, hl, hn⟩ := owned_lies (unhide HOr)
      go_ret
      refine ⟨_, _, rfl, ?_, unhide HBr⟩
      cases hv
      exact hl

def winI (n : Int) : List Int := if n = 16 ∨ n = 32 ∨ n = 64 then winOf n.toNat else []
theorem winI_no (n : Int) (h : ¬ (n = 16 ∨ n = 32 ∨ n = 64)) : winI n = [] := by unfold winI; rw [if_neg h]
theorem win_none (n : Int) (w : World) (h : ¬ (n = 16 ∨ n = 32 ∨ n = 64)) :
    Calls Tryd.prog 10 #[.int .i64 n] w fun e w' => e = .returned (.slice none 0 0) ∧ w' = w := by
  have h1 : ¬ n = 16 := fun e => h (.inl e)
  have h2 : ¬ n = 32 := fun e => h (.inr (.inl e))
  have h3 : ¬ n = 64 := fun e => h (.inr (.inr e))
  clear h
  go_enter Tryd.func10, Tryd.ntmps10
  go_wp2
  go_ret
  exact ⟨rfl, rfl⟩

/-- circle.Window: a row of the window's numbers, in memory of its own. -/
theorem window_any (n : Int) (w : World) (hq : Quar w) :
    Calls Tryd.prog 10 #[.int .i64 n] w fun e w' => ∃ a cap, e = .returned (.slice a (winI n).length cap) ∧ Lies w' a (winI n) ∧ Below w.heap.size w w' := by
  by_cases h : n = 16 ∨ n = 32 ∨ n = 64
  · rcases h with rfl | rfl | rfl
    · exact win_16 w hq
    · exact win_32 w hq
    · exact win_64 w hq
  · refine (win_none n w h).mono ?_
    rintro e w' ⟨rfl, rfl⟩
    rw [winI_no n h]
    exact ⟨none, 0, rfl, .inl rfl, Below.refl _ _⟩
end Go.Proofs.YtnncemagiobcbaaDoor
