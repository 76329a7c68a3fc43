/- The document's Window and Same: what they answer. -/
import Derived.Test.YtnncemagiobcbaaDoorRef
namespace Go.Proofs.YtnncemagiobcbaaDoor
open Go.RowKit
set_option linter.unusedVariables false

def preV (n k : Nat) : List Value := ((List.range k).map (winAt n)).map (Value.int .i64)
theorem preV_succ (n k : Nat) : preV n (k + 1) = preV n k ++ [.int .i64 (winAt n k)] := by simp [preV, List.range_succ]
theorem preV_all (n : Nat) : preV n n = (winOf n).map (Value.int .i64) := rfl
theorem preV_zero (n : Nat) : preV n 0 = [] := rfl

set_option maxRecDepth 100000 in
theorem rwin_16 (w : World) :
    Calls Tryd.prog 11 #[.int .i64 16] w fun e w' => ∃ a cap, e = .returned (.slice a 16 cap) ∧ Lies w' a (winOf 16) ∧ Below w.heap.size w w' := by
  obtain ⟨i0, hi, hz0, hz1, hz2⟩ := info_parts Tryd.info3
  go_enter Tryd.func11, Tryd.ntmps11
  go_wp2
  go_loopw [3, 4] (fun v i wr => ∃ k : Nat, k ≤ 16 ∧ i = .int .i64 k ∧ Hid (wr.ownsRow w.heap.size 3 1 v k (preV 16 k)) ∧ Hid (Below w.heap.size w wr))
    (fun _ i _ => 16 - (intOf i).toNat)
  case atStart => exact ⟨0, by decide, rfl, World.ownsRow_nil _ _ _ _, Below.refl _ _⟩
  case round =>
    obtain ⟨k, hk, rfl, HOr, HBr⟩ := hrel
    obtain ⟨j, hj, hj2⟩ : ∃ j : Nat, j = k * 64 / 16 ∧ ((k : Int) * 64 / 16) = (j : Int) := ⟨_, rfl, by omega⟩
    have HJ := hide hj2
    have h64 : k < 16 → j < 64 := fun _ => by omega
    have HW := hide (show winAt 16 k = 8847 - halfI (7537 * cosAt j) 14 by subst hj; rfl)
    clear hj hj2
    go_wp2_with fail
    · have hlt : k < 16 := by omega
      rw [unhide HJ]
      refine (rcos_any j _ (by have := h64 hlt; unfold In64; omega)).mono ?_
      rintro e w2 ⟨rfl, hb2⟩
      rw [cosI_at j (h64 hlt)]
      have hcb := cosAt_bd j
      have hhb := half_bd j
      generalize cosAt j = c at HW hcb hhb ⊢
      have HO2 := hide (owns_below (unhide HOr) hb2)
      have HB2 := hide ((unhide HBr).trans (hb2.mono (unhide HBr).size))
      clear HOr HBr hb2
      go_wp2_with fail
      refine (rhalf_any (7537 * c) 14 _ (by unfold In64; omega)).mono ?_
      rintro e w3 ⟨rfl, rfl⟩
      generalize halfI (7537 * c) 14 = z at HW hhb ⊢
      go_wp2_with (at_builtin; refine wpList_append_own _ rfl _ _ 24 rfl w.heap.size 3 i0 (.int .i64 0) 1 8 Tryd.underlying24 hi hz0 hz1 hz2 rfl (by decide) _ _ _ rfl ((unhide HO2).alloc _) ⟨w3.heap.size, 0, none⟩ 1 1 [.int .i64 (8847 - z)] rfl rfl ?d1 ?d2 ?d3 ?d4 ?d5 ?_)
      case d1 => exact cell_one_new _ _ _
      case d2 => exact ints_one [8847 - z]
      case d3 => unfold maxLen; omega
      case d4 => omega
      case d5 => have := (unhide HB2).size; simp; omega
      intro v4 w4 hown4 hg4 _
      have HB4 := hide (((unhide HB2).alloc (unhide HB2).size _).grown hg4 (by have := (unhide HB2).size; simp; omega) (fun j hj => ((unhide HO2).lt j hj).1))
      have HO4 := hide (show w4.ownsRow w.heap.size 3 1 v4 (k + 1) (preV 16 (k + 1)) by rw [preV_succ, unhide HW]; exact hown4)
      clear hown4 hg4
      go_wp2
      go_roundw
      case rel => exact ⟨k + 1, by omega, by go_num, HO4, HB4⟩
      case measure => simp [intOf]; omega
    · have hkn : k = 16 := by omega
      subst hkn
      rw [preV_all] at HOr
      obtain ⟨a, cap, hv, hl, hn⟩ := owned_lies (unhide HOr)
      subst hv
      go_ret
      exact ⟨_, _, rfl, hl, unhide HBr⟩

set_option maxRecDepth 100000 in
theorem rwin_32 (w : World) :
    Calls Tryd.prog 11 #[.int .i64 32] w fun e w' => ∃ a cap, e = .returned (.slice a 32 cap) ∧ Lies w' a (winOf 32) ∧ Below w.heap.size w w' := by
  obtain ⟨i0, hi, hz0, hz1, hz2⟩ := info_parts Tryd.info3
  go_enter Tryd.func11, Tryd.ntmps11
  go_wp2
  go_loopw [3, 4] (fun v i wr => ∃ k : Nat, k ≤ 32 ∧ i = .int .i64 k ∧ Hid (wr.ownsRow w.heap.size 3 1 v k (preV 32 k)) ∧ Hid (Below w.heap.size w wr))
    (fun _ i _ => 32 - (intOf i).toNat)
  case atStart => exact ⟨0, by decide, rfl, World.ownsRow_nil _ _ _ _, Below.refl _ _⟩
  case round =>
    obtain ⟨k, hk, rfl, HOr, HBr⟩ := hrel
    obtain ⟨j, hj, hj2⟩ : ∃ j : Nat, j = k * 64 / 32 ∧ ((k : Int) * 64 / 32) = (j : Int) := ⟨_, rfl, by omega⟩
    have HJ := hide hj2
    have h64 : k < 32 → j < 64 := fun _ => by omega
    have HW := hide (show winAt 32 k = 8847 - halfI (7537 * cosAt j) 14 by subst hj; rfl)
    clear hj hj2
    go_wp2_with fail
    · have hlt : k < 32 := by omega
      rw [unhide HJ]
      refine (rcos_any j _ (by have := h64 hlt; unfold In64; omega)).mono ?_
      rintro e w2 ⟨rfl, hb2⟩
      rw [cosI_at j (h64 hlt)]
      have hcb := cosAt_bd j
      have hhb := half_bd j
      generalize cosAt j = c at HW hcb hhb ⊢
      have HO2 := hide (owns_below (unhide HOr) hb2)
      have HB2 := hide ((unhide HBr).trans (hb2.mono (unhide HBr).size))
      clear HOr HBr hb2
      go_wp2_with fail
      refine (rhalf_any (7537 * c) 14 _ (by unfold In64; omega)).mono ?_
      rintro e w3 ⟨rfl, rfl⟩
      generalize halfI (7537 * c) 14 = z at HW hhb ⊢
      go_wp2_with (at_builtin; refine wpList_append_own _ rfl _ _ 24 rfl w.heap.size 3 i0 (.int .i64 0) 1 8 Tryd.underlying24 hi hz0 hz1 hz2 rfl (by decide) _ _ _ rfl ((unhide HO2).alloc _) ⟨w3.heap.size, 0, none⟩ 1 1 [.int .i64 (8847 - z)] rfl rfl ?d1 ?d2 ?d3 ?d4 ?d5 ?_)
      case d1 => exact cell_one_new _ _ _
      case d2 => exact ints_one [8847 - z]
      case d3 => unfold maxLen; omega
      case d4 => omega
      case d5 => have := (unhide HB2).size; simp; omega
      intro v4 w4 hown4 hg4 _
      have HB4 := hide (((unhide HB2).alloc (unhide HB2).size _).grown hg4 (by have := (unhide HB2).size; simp; omega) (fun j hj => ((unhide HO2).lt j hj).1))
      have HO4 := hide (show w4.ownsRow w.heap.size 3 1 v4 (k + 1) (preV 32 (k + 1)) by rw [preV_succ, unhide HW]; exact hown4)
      clear hown4 hg4
      go_wp2
      go_roundw
      case rel => exact ⟨k + 1, by omega, by go_num, HO4, HB4⟩
      case measure => simp [intOf]; omega
    · have hkn : k = 32 := by omega
      subst hkn
      rw [preV_all] at HOr
      obtain ⟨a, cap, hv, hl, hn⟩ := owned_lies (unhide HOr)
      subst hv
      go_ret
      exact ⟨_, _, rfl, hl, unhide HBr⟩

set_option maxRecDepth 100000 in
theorem rwin_64 (w : World) :
    Calls Tryd.prog 11 #[.int .i64 64] w fun e w' => ∃ a cap, e = .returned (.slice a 64 cap) ∧ Lies w' a (winOf 64) ∧ Below w.heap.size w w' := by
  obtain ⟨i0, hi, hz0, hz1, hz2⟩ := info_parts Tryd.info3
  go_enter Tryd.func11, Tryd.ntmps11
  go_wp2
  go_loopw [3, 4] (fun v i wr => ∃ k : Nat, k ≤ 64 ∧ i = .int .i64 k ∧ Hid (wr.ownsRow w.heap.size 3 1 v k (preV 64 k)) ∧ Hid (Below w.heap.size w wr))
    (fun _ i _ => 64 - (intOf i).toNat)
  case atStart => exact ⟨0, by decide, rfl, World.ownsRow_nil _ _ _ _, Below.refl _ _⟩
  case round =>
    obtain ⟨k, hk, rfl, HOr, HBr⟩ := hrel
    have HW := hide (show winAt 64 k = 8847 - halfI (7537 * cosAt k) 14 by unfold winAt; rw [Nat.mul_div_cancel _ (by decide)])
    go_wp2_with fail
    · have hlt : k < 64 := by omega
      refine (rcos_any k _ (by unfold In64; omega)).mono ?_
      rintro e w2 ⟨rfl, hb2⟩
      rw [cosI_at k hlt]
      have hcb := cosAt_bd k
      have hhb := half_bd k
      generalize cosAt k = c at HW hcb hhb ⊢
      have HO2 := hide (owns_below (unhide HOr) hb2)
      have HB2 := hide ((unhide HBr).trans (hb2.mono (unhide HBr).size))
      clear HOr HBr hb2
      go_wp2_with fail
      refine (rhalf_any (7537 * c) 14 _ (by unfold In64; omega)).mono ?_
      rintro e w3 ⟨rfl, rfl⟩
      generalize halfI (7537 * c) 14 = z at HW hhb ⊢
      go_wp2_with (at_builtin; refine wpList_append_own _ rfl _ _ 24 rfl w.heap.size 3 i0 (.int .i64 0) 1 8 Tryd.underlying24 hi hz0 hz1 hz2 rfl (by decide) _ _ _ rfl ((unhide HO2).alloc _) ⟨w3.heap.size, 0, none⟩ 1 1 [.int .i64 (8847 - z)] rfl rfl ?d1 ?d2 ?d3 ?d4 ?d5 ?_)
      case d1 => exact cell_one_new _ _ _
      case d2 => exact ints_one [8847 - z]
      case d3 => unfold maxLen; omega
      case d4 => omega
      case d5 => have := (unhide HB2).size; simp; omega
      intro v4 w4 hown4 hg4 _
      have HB4 := hide (((unhide HB2).alloc (unhide HB2).size _).grown hg4 (by have := (unhide HB2).size; simp; omega) (fun j hj => ((unhide HO2).lt j hj).1))
      have HO4 := hide (show w4.ownsRow w.heap.size 3 1 v4 (k + 1) (preV 64 (k + 1)) by rw [preV_succ, unhide HW]; exact hown4)
      clear hown4 hg4
      go_wp2
      go_roundw
      case rel => exact ⟨k + 1, by omega, by go_num, HO4, HB4⟩
      case measure => simp [intOf]; omega
    · have hkn : k = 64 := by omega
      subst hkn
      rw [preV_all] at HOr
      obtain ⟨a, cap, hv, hl, hn⟩ := owned_lies (unhide HOr)
      subst hv
      go_ret
      exact ⟨_, _, rfl, hl, unhide HBr⟩

theorem rwin_none (n : Int) (w : World) (h : ¬ (n = 16 ∨ n = 32 ∨ n = 64)) :
    Calls Tryd.prog 11 #[.int .i64 n] w fun e w' => e = .returned (.slice none 0 0) ∧ w' = w := by
  have h1 : ¬ n = 16 := fun e => h (.inl e)
  have h2 : ¬ n = 32 := fun e => h (.inr (.inl e))
  have h3 : ¬ n = 64 := fun e => h (.inr (.inr e))
  have g1 : (n != 16) = true := by simp [h1]
  have g2 : (n != 32) = true := by simp [h2]
  have g3 : (n != 64) = true := by simp [h3]
  clear h h1 h2 h3
  go_enter Tryd.func11, Tryd.ntmps11
  go_wp2
  go_ret
  exact ⟨rfl, rfl⟩

theorem rwindow_any (n : Int) (w : World) :
    Calls Tryd.prog 11 #[.int .i64 n] w fun e w' => ∃ a cap, e = .returned (.slice a (winI n).length cap) ∧ Lies w' a (winI n) ∧ Below w.heap.size w w' := by
  by_cases h : n = 16 ∨ n = 32 ∨ n = 64
  · rcases h with rfl | rfl | rfl
    · exact rwin_16 w
    · exact rwin_32 w
    · exact rwin_64 w
  · refine (rwin_none n w h).mono ?_
    rintro e w' ⟨rfl, rfl⟩
    rw [winI_no n h]
    exact ⟨none, 0, rfl, .inl rfl, Below.refl _ _⟩

/-- The document's Same, of two rows that hold the same numbers. -/
theorem same_any (a b : Option Addr) (cap cap' : Nat) (xs : List Int) (n : Nat) (hn : xs.length = n) (hm : n ≤ 1000000) (w : World) (ha : Lies w a xs) (hb : Lies w b xs) :
    Calls Tryd.prog 9 #[.slice a n cap, .slice b n cap'] w fun e w' => e = .returned (.bool true) ∧ Below w.heap.size w w' := by
  have HA := hide ha
  have HB := hide hb
  have HN := hide hn
  clear ha hb hn
  go_enter Tryd.func9, Tryd.ntmps9
  go_wp2
  go_loopw [5] (fun i wr => ∃ k : Nat, k ≤ n ∧ i = .int .i64 k ∧ Hid (Below w.heap.size w wr))
    (fun i _ => n - (intOf i).toNat)
  case atStart => exact ⟨0, Nat.zero_le _, rfl, Below.refl _ _⟩
  case round =>
    obtain ⟨k, hk, rfl, HBr⟩ := hrel
    by_cases c : k < n
    · obtain ⟨ba, oa, rfl, hlta, hca⟩ : ∃ b off, a = some ⟨b, off, none⟩ ∧ b < w.heap.size ∧ ∀ j, j < xs.length → w.cell? ⟨b, off + j, none⟩ = some (.int .i64 (xs.getD j 0)) := by
        rcases unhide HA with h | h
        · have := unhide HN; subst h; simp at this; omega
        · exact h
      obtain ⟨bb, ob, rfl, hltb, hcb⟩ : ∃ b' off, b = some ⟨b', off, none⟩ ∧ b' < w.heap.size ∧ ∀ j, j < xs.length → w.cell? ⟨b', off + j, none⟩ = some (.int .i64 (xs.getD j 0)) := by
        rcases unhide HB with h | h
        · have := unhide HN; subst h; simp at this; omega
        · exact h
      have hc1 : wr.cell? ⟨ba, oa + k, none⟩ = some (.int .i64 (xs.getD k 0)) := by rw [(unhide HBr).cell (p := ⟨ba, _, none⟩) hlta]; exact hca k (by rw [unhide HN]; exact c)
      have hc2 : wr.cell? ⟨bb, ob + k, none⟩ = some (.int .i64 (xs.getD k 0)) := by rw [(unhide HBr).cell (p := ⟨bb, _, none⟩) hltb]; exact hcb k (by rw [unhide HN]; exact c)
      clear hca hcb HA HB
      generalize xs.getD k 0 = z at hc1 hc2
      go_wp2
      go_region
      all_goals go_wp2
      go_roundw
      case rel => exact ⟨k + 1, by omega, by go_num, (unhide HBr).drew⟩
      case measure => simp [intOf]; omega
    · go_wp2
      go_ret
      exact ⟨rfl, unhide HBr⟩
end Go.Proofs.YtnncemagiobcbaaDoor
