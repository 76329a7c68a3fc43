/- spin.Real, Imag: what they answer. -/
import Derived.Test.YtcnpbkgnoeoccaaDoorTurn
namespace Go.Proofs.YtcnpbkgnoeoccaaDoor
open Go.RowKit
set_option linter.unusedVariables false

theorem maybe_yes (n : Nat) (w : World) (h : mayN n) : Calls Tryd.prog 35 #[.int .i64 (n : Int)] w fun e w' => e = .returned (.bool true) ∧ w' = w := by
  rcases h with rfl | rfl | rfl | rfl | rfl | rfl
  all_goals
    go_enter Tryd.func35, Tryd.ntmps35
    go_wp2
    go_ret
    exact ⟨rfl, rfl⟩
theorem maybe_no (n : Nat) (w : World) (h : ¬ mayN n) : Calls Tryd.prog 35 #[.int .i64 (n : Int)] w fun e w' => e = .returned (.bool false) ∧ w' = w := by
  unfold mayN at h
  have h1 : ((n : Int) == 1) = false := by simp; omega
  have h2 : ((n : Int) == 2) = false := by simp; omega
  have h3 : ((n : Int) == 4) = false := by simp; omega
  have h4 : ((n : Int) == 8) = false := by simp; omega
  have h5 : ((n : Int) == 16) = false := by simp; omega
  have h6 : ((n : Int) == 32) = false := by simp; omega
  clear h
  go_enter Tryd.func35, Tryd.ntmps35
  go_wp2
  go_ret
  exact ⟨rfl, rfl⟩
theorem msin_any (k : Int) (w : World) (hk : In64 k) (hq : Quar w) :
    Calls Tryd.prog 30 #[.int .i64 k] w fun e w' => e = .returned (.int .i64 (-sinI k)) ∧ Below w.heap.size w w' := by
  have H := hide (sin_any k w hk hq)
  have hbd := sinI_bd k
  obtain ⟨z, hz⟩ : ∃ z, sinI k = z := ⟨_, rfl⟩
  rw [hz] at H hbd ⊢
  clear hq hz
  go_enter Tryd.func30, Tryd.ntmps30
  go_wp2_with fail
  refine (unhide H).mono ?_
  rintro e w1 ⟨rfl, hb⟩
  go_wp2
  go_ret
  exact ⟨rfl, hb⟩
theorem place_bd (j n : Nat) (h : j < n) : j * 32 / n < 32 := (Nat.div_lt_iff_lt_mul (by omega)).2 (by omega)

set_option maxRecDepth 100000 in
theorem part_cos (a : Option Addr) (cap n : Nat) (xs : List Int) (w : World) (hl : Lies w a xs) (hs : Small xs) (hn : xs.length = n) (hq : Quar w) :
    Calls Tryd.prog 28 #[.slice a n cap, .func (.func 29) #[] #[]] w fun e w' => e = .returned (.int .i64 (partI cosC xs)) ∧ Below w.heap.size w w' := by
  by_cases m : mayN n
  · have HL := hide hl
    have HN := hide hn
    have HS := hide hs
    have HQ := hide hq
    have HE := hide (show partI cosC xs = wrap64 (wgh cosC xs n) by unfold partI; rw [hn, if_pos m])
    have hm : n ≤ 32 := by unfold mayN at m; omega
    have HM := hide m
    clear hl hn hs hq m
    go_enter Tryd.func28, Tryd.ntmps28
    go_wp2_with fail
    refine (maybe_yes n _ (unhide HM)).mono ?_
    rintro e w1 ⟨rfl, rfl⟩
    go_wp2
    go_loopw [14, 5] (fun i s wr => ∃ (j : Nat), j ≤ n ∧ i = .int .i64 (j : Int) ∧ s = .int .i64 (wrap64 (wgh cosC xs j)) ∧ Hid (Below w1.heap.size w1 wr))
      (fun i _ _ => n - (intOf i).toNat)
    case atStart => exact ⟨0, by omega, rfl, by show _ = Value.int .i64 (wrap64 0); rw [w64_zero], Below.refl _ _⟩
    case round =>
      obtain ⟨j, hj, rfl, rfl, HBr⟩ := hrel
      by_cases hlt : j < n
      · obtain ⟨ba, oa, rfl, hlta, hca⟩ := (unhide HL).some (by intro h; have := unhide HN; subst h; simp at this; omega)
        have cx : wr.cell? ⟨ba, oa + j, none⟩ = some (.int .i64 (xs.getD j 0)) := by rw [(unhide HBr).cell (p := ⟨ba, _, none⟩) hlta]; exact hca j (by rw [unhide HN]; exact hlt)
        obtain ⟨S, hS⟩ : ∃ S, wgh cosC xs j = S := ⟨_, rfl⟩
        obtain ⟨x, hx⟩ : ∃ x, xs.getD j 0 = x := ⟨_, rfl⟩
        obtain ⟨q, hq⟩ : ∃ q, j * 32 / n = q := ⟨_, rfl⟩
        have hq32 : q < 32 := by rw [← hq]; exact place_bd j n hlt
        have HT := hide (show (j : Int) * 32 / (n : Int) = (q : Int) by rw [← hq]; rfl)
        have HW := hide (show wgh cosC xs (j + 1) = S + x * cosC q by show sumF _ (j + 1) = _; rw [← hS, ← hx, ← hq, ← unhide HN]; rfl)
        rw [hx] at cx
        rw [hS]
        clear hca hS hx hq
        go_wp2_with fail
        rw [unhide HT]
        refine (cos_any (q : Int) _ (by unfold In64; omega) ((unhide HQ).below (unhide HBr))).mono ?_
        rintro e w2 ⟨rfl, hb⟩
        obtain ⟨z, hz⟩ : ∃ z, cosI (q : Int) = z := ⟨_, rfl⟩
        have hbd := cosI_bd (q : Int)
        rw [hz] at hbd ⊢
        have HZ := hide (show cosC q = z by rw [← hz]; rfl)
        have HB2 := hide (below_trans (unhide HBr) hb)
        obtain ⟨P, hP⟩ : ∃ P, x * z = P := ⟨_, rfl⟩
        have HP := hide hP
        clear hz hb HBr hP
        go_wp2
        go_roundw
        case rel =>
          refine ⟨j + 1, by omega, by simp, ?_, HB2⟩
          rw [unhide HW, unhide HZ, unhide HP]
          try rw [unhide HP]
          congr 1
          unfold wrap64; omega
        case measure => simp [intOf]; omega
      · obtain rfl : j = n := by omega
        go_wp2
        go_ret
        exact ⟨ret_int (unhide HE).symm, unhide HBr⟩
  · have HM := hide m
    have HE := hide (show partI cosC xs = 0 by unfold partI; rw [hn, if_neg m])
    clear hl hn hs hq m
    go_enter Tryd.func28, Tryd.ntmps28
    go_wp2_with fail
    refine (maybe_no n _ (unhide HM)).mono ?_
    rintro e w1 ⟨rfl, rfl⟩
    go_wp2
    go_ret
    exact ⟨ret_int (unhide HE).symm, Below.refl _ _⟩
set_option maxRecDepth 100000 in
theorem part_sin (a : Option Addr) (cap n : Nat) (xs : List Int) (w : World) (hl : Lies w a xs) (hs : Small xs) (hn : xs.length = n) (hq : Quar w) :
    Calls Tryd.prog 28 #[.slice a n cap, .func (.func 30) #[] #[]] w fun e w' => e = .returned (.int .i64 (partI sinC xs)) ∧ Below w.heap.size w w' := by
  by_cases m : mayN n
  · have HL := hide hl
    have HN := hide hn
    have HS := hide hs
    have HQ := hide hq
    have HE := hide (show partI sinC xs = wrap64 (wgh sinC xs n) by unfold partI; rw [hn, if_pos m])
    have hm : n ≤ 32 := by unfold mayN at m; omega
    have HM := hide m
    clear hl hn hs hq m
    go_enter Tryd.func28, Tryd.ntmps28
    go_wp2_with fail
    refine (maybe_yes n _ (unhide HM)).mono ?_
    rintro e w1 ⟨rfl, rfl⟩
    go_wp2
    go_loopw [14, 5] (fun i s wr => ∃ (j : Nat), j ≤ n ∧ i = .int .i64 (j : Int) ∧ s = .int .i64 (wrap64 (wgh sinC xs j)) ∧ Hid (Below w1.heap.size w1 wr))
      (fun i _ _ => n - (intOf i).toNat)
    case atStart => exact ⟨0, by omega, rfl, by show _ = Value.int .i64 (wrap64 0); rw [w64_zero], Below.refl _ _⟩
    case round =>
      obtain ⟨j, hj, rfl, rfl, HBr⟩ := hrel
      by_cases hlt : j < n
      · obtain ⟨ba, oa, rfl, hlta, hca⟩ := (unhide HL).some (by intro h; have := unhide HN; subst h; simp at this; omega)
        have cx : wr.cell? ⟨ba, oa + j, none⟩ = some (.int .i64 (xs.getD j 0)) := by rw [(unhide HBr).cell (p := ⟨ba, _, none⟩) hlta]; exact hca j (by rw [unhide HN]; exact hlt)
        obtain ⟨S, hS⟩ : ∃ S, wgh sinC xs j = S := ⟨_, rfl⟩
        obtain ⟨x, hx⟩ : ∃ x, xs.getD j 0 = x := ⟨_, rfl⟩
        obtain ⟨q, hq⟩ : ∃ q, j * 32 / n = q := ⟨_, rfl⟩
        have hq32 : q < 32 := by rw [← hq]; exact place_bd j n hlt
        have HT := hide (show (j : Int) * 32 / (n : Int) = (q : Int) by rw [← hq]; rfl)
        have HW := hide (show wgh sinC xs (j + 1) = S + x * sinC q by show sumF _ (j + 1) = _; rw [← hS, ← hx, ← hq, ← unhide HN]; rfl)
        rw [hx] at cx
        rw [hS]
        clear hca hS hx hq
        go_wp2_with fail
        rw [unhide HT]
        refine (msin_any (q : Int) _ (by unfold In64; omega) ((unhide HQ).below (unhide HBr))).mono ?_
        rintro e w2 ⟨rfl, hb⟩
        obtain ⟨z, hz⟩ : ∃ z, -sinI (q : Int) = z := ⟨_, rfl⟩
        have hbd := sinI_bd (q : Int)
        replace hbd : -16384 ≤ z ∧ z ≤ 16384 := by omega
        rw [hz]
        have HZ := hide (show sinC q = z by rw [← hz]; rfl)
        have HB2 := hide (below_trans (unhide HBr) hb)
        obtain ⟨P, hP⟩ : ∃ P, x * z = P := ⟨_, rfl⟩
        have HP := hide hP
        clear hz hb HBr hP
        go_wp2
        go_roundw
        case rel =>
          refine ⟨j + 1, by omega, by simp, ?_, HB2⟩
          rw [unhide HW, unhide HZ, unhide HP]
          try rw [unhide HP]
          congr 1
          unfold wrap64; omega
        case measure => simp [intOf]; omega
      · obtain rfl : j = n := by omega
        go_wp2
        go_ret
        exact ⟨ret_int (unhide HE).symm, unhide HBr⟩
  · have HM := hide m
    have HE := hide (show partI sinC xs = 0 by unfold partI; rw [hn, if_neg m])
    clear hl hn hs hq m
    go_enter Tryd.func28, Tryd.ntmps28
    go_wp2_with fail
    refine (maybe_no n _ (unhide HM)).mono ?_
    rintro e w1 ⟨rfl, rfl⟩
    go_wp2
    go_ret
    exact ⟨ret_int (unhide HE).symm, Below.refl _ _⟩

theorem real_any (a : Option Addr) (cap n : Nat) (xs : List Int) (w : World) (hl : Lies w a xs) (hs : Small xs) (hn : xs.length = n) (hq : Quar w) :
    Calls Tryd.prog 16 #[.slice a n cap] w fun e w' => e = .returned (.int .i64 (partI cosC xs)) ∧ Below w.heap.size w w' := by
  have H := hide (part_cos a cap n xs w hl hs hn hq)
  clear hl hn hq
  go_enter Tryd.func16, Tryd.ntmps16
  go_wp2_with fail
  refine (unhide H).mono ?_
  rintro e w1 ⟨rfl, hb⟩
  go_wp2
  go_ret
  exact ⟨rfl, hb⟩
theorem imag_any (a : Option Addr) (cap n : Nat) (xs : List Int) (w : World) (hl : Lies w a xs) (hs : Small xs) (hn : xs.length = n) (hq : Quar w) :
    Calls Tryd.prog 17 #[.slice a n cap] w fun e w' => e = .returned (.int .i64 (partI sinC xs)) ∧ Below w.heap.size w w' := by
  have H := hide (part_sin a cap n xs w hl hs hn hq)
  clear hl hn hq
  go_enter Tryd.func17, Tryd.ntmps17
  go_wp2_with fail
  refine (unhide H).mono ?_
  rintro e w1 ⟨rfl, hb⟩
  go_wp2
  go_ret
  exact ⟨rfl, hb⟩
end Go.Proofs.YtcnpbkgnoeoccaaDoor
