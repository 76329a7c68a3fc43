/- The document's May, Real, Imag: what they answer. -/
import Derived.Test.YtcnpbkgnoeoccaaDoorPart
namespace Go.Proofs.YtcnpbkgnoeoccaaDoor
open Go.RowKit
set_option linter.unusedVariables false

theorem rmay_yes (n : Nat) (w : World) (h : mayN n) : Calls Tryd.prog 18 #[.int .i64 (n : Int)] w fun e w' => e = .returned (.bool true) ∧ w' = w := by
  rcases h with rfl | rfl | rfl | rfl | rfl | rfl
  all_goals
    go_enter Tryd.func18, Tryd.ntmps18
    go_wp2
    go_ret
    exact ⟨rfl, rfl⟩
theorem rmay_no (n : Nat) (w : World) (h : ¬ mayN n) : Calls Tryd.prog 18 #[.int .i64 (n : Int)] w fun e w' => e = .returned (.bool false) ∧ w' = w := by
  unfold mayN at h
  have h1 : ((n : Int) == 1) = false := by simp; omega
  have h2 : ((n : Int) == 2) = false := by simp; omega
  have h3 : ((n : Int) == 4) = false := by simp; omega
  have h4 : ((n : Int) == 8) = false := by simp; omega
  have h5 : ((n : Int) == 16) = false := by simp; omega
  have h6 : ((n : Int) == 32) = false := by simp; omega
  clear h
  go_enter Tryd.func18, Tryd.ntmps18
  go_wp2
  go_ret
  exact ⟨rfl, rfl⟩

theorem undrew {w w' : World} (h : Below w.drew.heap.size w.drew w') : Below w.heap.size w w' := ⟨h.os, h.tape, h.output, h.size, h.block⟩
set_option maxRecDepth 100000 in
theorem rreal_any (a : Option Addr) (cap n : Nat) (xs : List Int) (w : World) (hl : Lies w a xs) (hs : Small xs) (hn : xs.length = n) (hnx : n ≤ 1000000) :
    Calls Tryd.prog 22 #[.slice a n cap] w fun e w' => e = .returned (.int .i64 (partI cosC xs)) ∧ Below w.heap.size w w' := by
  by_cases m : mayN n
  · have HL := hide hl
    have HN := hide hn
    have HS := hide hs
    have HE := hide (show partI cosC xs = wrap64 (wgh cosC xs n) by unfold partI; rw [hn, if_pos m])
    have hm : n ≤ 32 := by unfold mayN at m; omega
    have HM := hide m
    clear hl hn hs m
    go_enter Tryd.func22, Tryd.ntmps22
    go_wp2_with fail
    refine (rmay_yes n _ (unhide HM)).mono ?_
    rintro e w1 ⟨rfl, rfl⟩
    go_wp2
    go_loopw [3, 5] (fun s i wr => ∃ (j : Nat), j ≤ n ∧ i = .int .i64 (j : Int) ∧ s = .int .i64 (wrap64 (wgh cosC xs j)) ∧ Hid (Below w1.heap.size w1 wr))
      (fun _ i _ => n - (intOf i).toNat)
    case atStart => exact ⟨0, by omega, rfl, by show _ = Value.int .i64 (wrap64 0); rw [w64_zero], Below.refl _ _⟩
    case round =>
      obtain ⟨j, hj, rfl, rfl, HBr⟩ := hrel
      by_cases hlt : j < n
      · obtain ⟨ba, oa, rfl, hlta, hca⟩ := (unhide HL).some (by intro h; have := unhide HN; subst h; simp at this; omega)
        have cx : wr.cell? ⟨ba, oa + j, none⟩ = some (.int .i64 (xs.getD j 0)) := by rw [(unhide HBr).cell (p := ⟨ba, _, none⟩) hlta]; exact hca j (by rw [unhide HN]; exact hlt)
        obtain ⟨S, hS⟩ : ∃ S, wgh cosC xs j = S := ⟨_, rfl⟩
        obtain ⟨x, hx⟩ : ∃ x, xs.getD j 0 = x := ⟨_, rfl⟩
        obtain ⟨q, hq⟩ : ∃ q, j * 32 / n = q := ⟨_, rfl⟩
        have hq32 : q < 32 := by rw [← hq]; exact place_bd j n hlt
        have HT := hide (show (j : Int) * 32 / (n : Int) = (q : Int) by rw [← hq]; rfl)
        have HW := hide (show wgh cosC xs (j + 1) = S + x * cosC q by show sumF _ (j + 1) = _; rw [← hS, ← hx, ← hq, ← unhide HN]; rfl)
        rw [hx] at cx
        rw [hS]
        clear hca hS hx hq
        have f1 : IntKind.i64.wrap ((j : Int) * 32) = (j : Int) * 32 := by rw [IntKind.wrap_i64]; omega
        have f2 : ((j : Int) * 32).tdiv (n : Int) = (q : Int) := by rw [← unhide HT]; rfl
        have f3 : IntKind.i64.wrap (q : Int) = (q : Int) := by rw [IntKind.wrap_i64]; omega
        have f4 : (j : Int) < (n : Int) := by omega
        have f5 : ¬ (n : Int) = 0 := by omega
        have f6 : ¬ n = 0 := by omega
        have hbw : ba < wr.heap.size := by have := (unhide HBr).size; omega
        go_wp2
        go_region_held3 (fun w' => w'.cell? ⟨ba, oa + j, none⟩ = some (.int .i64 x)) (first | exact cx | exact (hb2.cell (p := ⟨ba, _, none⟩) hbw).trans cx | assumption) ((go_at_call 33; refine (rcos_any (q : Int) wr.drew (by unfold In64; omega)).mono ?_; rintro e w2 ⟨rfl, hb2⟩))
        obtain ⟨P, hP⟩ : ∃ P, x * cosI (q : Int) = P := ⟨_, rfl⟩
        have HP := hide (show x * cosC q = P from hP)
        have HB2 := hide (below_trans (unhide HBr) (undrew hb2))
        rw [hP]
        clear hP hb2 HBr
        go_wp2
        go_roundw
        case rel =>
          refine ⟨j + 1, by omega, by simp, ?_, HB2⟩
          rw [unhide HW, unhide HP]
          congr 1
          rw [IntKind.wrap_i64, IntKind.wrap_i64]
          unfold wrap64; omega
        case measure => simp [intOf]; omega
      · obtain rfl : j = n := by omega
        go_wp2
        go_ret
        exact ⟨ret_int (unhide HE).symm, unhide HBr⟩
  · have HM := hide m
    have HE := hide (show partI cosC xs = 0 by unfold partI; rw [hn, if_neg m])
    clear hl hn hs m
    go_enter Tryd.func22, Tryd.ntmps22
    go_wp2_with fail
    refine (rmay_no n _ (unhide HM)).mono ?_
    rintro e w1 ⟨rfl, rfl⟩
    go_wp2
    go_loopw [3, 5] (fun s i wr => s = .int .i64 0 ∧ i = .int .i64 0 ∧ wr = w1) (fun _ i _ => 0)
    case atStart => exact ⟨rfl, rfl, rfl⟩
    case round =>
      obtain ⟨rfl, rfl, rfl⟩ := hrel
      go_wp2
      all_goals
        go_ret
        exact ⟨ret_int (unhide HE).symm, Below.refl _ _⟩
set_option maxRecDepth 100000 in
theorem rimag_any (a : Option Addr) (cap n : Nat) (xs : List Int) (w : World) (hl : Lies w a xs) (hs : Small xs) (hn : xs.length = n) (hnx : n ≤ 1000000) :
    Calls Tryd.prog 23 #[.slice a n cap] w fun e w' => e = .returned (.int .i64 (partI sinC xs)) ∧ Below w.heap.size w w' := by
  by_cases m : mayN n
  · have HL := hide hl
    have HN := hide hn
    have HS := hide hs
    have HE := hide (show partI sinC xs = wrap64 (wgh sinC xs n) by unfold partI; rw [hn, if_pos m])
    have hm : n ≤ 32 := by unfold mayN at m; omega
    have HM := hide m
    clear hl hn hs m
    go_enter Tryd.func23, Tryd.ntmps23
    go_wp2_with fail
    refine (rmay_yes n _ (unhide HM)).mono ?_
    rintro e w1 ⟨rfl, rfl⟩
    go_wp2
    go_loopw [3, 5] (fun s i wr => ∃ (j : Nat), j ≤ n ∧ i = .int .i64 (j : Int) ∧ s = .int .i64 (wrap64 (wgh sinC xs j)) ∧ Hid (Below w1.heap.size w1 wr))
      (fun _ i _ => n - (intOf i).toNat)
    case atStart => exact ⟨0, by omega, rfl, by show _ = Value.int .i64 (wrap64 0); rw [w64_zero], Below.refl _ _⟩
    case round =>
      obtain ⟨j, hj, rfl, rfl, HBr⟩ := hrel
      by_cases hlt : j < n
      · obtain ⟨ba, oa, rfl, hlta, hca⟩ := (unhide HL).some (by intro h; have := unhide HN; subst h; simp at this; omega)
        have cx : wr.cell? ⟨ba, oa + j, none⟩ = some (.int .i64 (xs.getD j 0)) := by rw [(unhide HBr).cell (p := ⟨ba, _, none⟩) hlta]; exact hca j (by rw [unhide HN]; exact hlt)
        obtain ⟨S, hS⟩ : ∃ S, wgh sinC xs j = S := ⟨_, rfl⟩
        obtain ⟨x, hx⟩ : ∃ x, xs.getD j 0 = x := ⟨_, rfl⟩
        obtain ⟨q, hq⟩ : ∃ q, j * 32 / n = q := ⟨_, rfl⟩
        have hq32 : q < 32 := by rw [← hq]; exact place_bd j n hlt
        have HT := hide (show (j : Int) * 32 / (n : Int) = (q : Int) by rw [← hq]; rfl)
        have HW := hide (show wgh sinC xs (j + 1) = S + x * sinC q by show sumF _ (j + 1) = _; rw [← hS, ← hx, ← hq, ← unhide HN]; rfl)
        rw [hx] at cx
        rw [hS]
        clear hca hS hx hq
        have f1 : IntKind.i64.wrap ((j : Int) * 32) = (j : Int) * 32 := by rw [IntKind.wrap_i64]; omega
        have f2 : ((j : Int) * 32).tdiv (n : Int) = (q : Int) := by rw [← unhide HT]; rfl
        have f3 : IntKind.i64.wrap (q : Int) = (q : Int) := by rw [IntKind.wrap_i64]; omega
        have f4 : (j : Int) < (n : Int) := by omega
        have f5 : ¬ (n : Int) = 0 := by omega
        have f6 : ¬ n = 0 := by omega
        have hbw : ba < wr.heap.size := by have := (unhide HBr).size; omega
        go_wp2
        go_region_held3 (fun w' => w'.cell? ⟨ba, oa + j, none⟩ = some (.int .i64 x)) (first | exact cx | exact (hb2.cell (p := ⟨ba, _, none⟩) hbw).trans cx | assumption) ((go_at_call 34; refine (rsin_any (q : Int) wr.drew (by unfold In64; omega)).mono ?_; rintro e w2 ⟨rfl, hb2⟩))
        obtain ⟨P, hP⟩ : ∃ P, x * sinI (q : Int) = P := ⟨_, rfl⟩
        have HP := hide (show x * sinC q = -P by rw [← hP]; unfold sinC; rw [Int.mul_neg])
        have HB2 := hide (below_trans (unhide HBr) (undrew hb2))
        rw [hP]
        clear hP hb2 HBr
        go_wp2
        go_roundw
        case rel =>
          refine ⟨j + 1, by omega, by simp, ?_, HB2⟩
          rw [unhide HW, unhide HP]
          congr 1
          rw [IntKind.wrap_i64, IntKind.wrap_i64]
          unfold wrap64; omega
        case measure => simp [intOf]; omega
      · obtain rfl : j = n := by omega
        go_wp2
        go_ret
        exact ⟨ret_int (unhide HE).symm, unhide HBr⟩
  · have HM := hide m
    have HE := hide (show partI sinC xs = 0 by unfold partI; rw [hn, if_neg m])
    clear hl hn hs m
    go_enter Tryd.func23, Tryd.ntmps23
    go_wp2_with fail
    refine (rmay_no n _ (unhide HM)).mono ?_
    rintro e w1 ⟨rfl, rfl⟩
    go_wp2
    go_loopw [3, 5] (fun s i wr => s = .int .i64 0 ∧ i = .int .i64 0 ∧ wr = w1) (fun _ i _ => 0)
    case atStart => exact ⟨rfl, rfl, rfl⟩
    case round =>
      obtain ⟨rfl, rfl, rfl⟩ := hrel
      go_wp2
      all_goals
        go_ret
        exact ⟨ret_int (unhide HE).symm, Below.refl _ _⟩
end Go.Proofs.YtcnpbkgnoeoccaaDoor
