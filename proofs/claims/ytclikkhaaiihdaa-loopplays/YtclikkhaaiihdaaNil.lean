/- The walk of LoopNil. -/
import Derived.Test.YtclikkhaaiihdaaWake
namespace Go.Proofs.Ytclikkhaaiihdaa
open Go.RowKit
set_option linter.unusedVariables false

theorem and_31 (n : Int) : bits .and .i64 n 31 = n % 32 := i64_mask n 31 5 (by decide) (by decide)

theorem room_pos (m : Nat) (wd : Int) (h1 : 1 ≤ wd) (h2 : wd ≤ (m : Int)) : 1 ≤ roomN m wd := by
  unfold roomN
  rw [if_neg (by omega)]
  exact Nat.div_pos (by omega) (by omega)
theorem room_zero (m : Nat) (wd : Int) (h : (m : Int) < wd) : roomN m wd = 0 := by
  unfold roomN
  rw [if_neg (by omega)]
  exact Nat.div_eq_of_lt (by omega)
set_option maxHeartbeats 4000000 in
theorem nil_any (width n t : Int) (hwi : In64 width) (hn : In64 n) (ht : In64 t) (w : World) : Calls Try.prog 7 #[.int .i64 width, .int .i64 n, .int .i64 t] w fun r w' => r = .returned (.bool true) ∧ Below w.heap.size w w' := by
  have ha := and_31 n
  obtain ⟨m, hm⟩ : ∃ m : Nat, n % 32 = (m : Int) := ⟨(n % 32).toNat, by omega⟩
  have hm2 : m ≤ 31 := by omega
  rw [hm] at ha
  have HT := hide ht
  have HW := hide hwi
  clear hwi hn ht hm
  go_enter Try.func7, Try.ntmps7
  go_wp2_with fail
  refine (lget_nil t _ (unhide HT)).mono ?_
  rintro e' w1 ⟨rfl, hb⟩
  have HB := hide hb
  clear hb
  go_wp2_with fail
  refine (wake_any _).mono ?_
  rintro e' w2 ⟨rfl, hb⟩
  have HB2 := hide (below_trans (unhide HB) hb)
  clear hb HB
  go_wp2_with fail
  refine (lpush_nil _ _ _ _).mono ?_
  rintro e' w3 ⟨rfl, hb⟩
  have HB3 := hide (below_trans (below_trans (unhide HB2) ((Below.refl _ _).alloc (Nat.le_refl _) _)) hb)
  clear hb HB2
  go_wp2_with fail
  refine (lwidth_nil _).mono ?_
  rintro e' w4 ⟨rfl, hb⟩
  have HB4 := hide (below_trans (unhide HB3) hb)
  clear hb HB3
  go_wp2_with fail
  refine (lroom_nil _).mono ?_
  rintro e' w5 ⟨rfl, hb⟩
  have HB5 := hide (below_trans (unhide HB4) hb)
  clear hb HB4
  go_wp2_with fail
  refine (lcount_nil _).mono ?_
  rintro e' w6 ⟨rfl, hb⟩
  have HB6 := hide (below_trans (unhide HB5) hb)
  clear hb HB5
  go_wp2_with fail
  refine (loldest_nil _).mono ?_
  rintro e' w7 ⟨rfl, hb⟩
  have HB7 := hide (below_trans (unhide HB6) hb)
  clear hb HB6
  go_wp2_with fail
  refine (lseek_nil _ _).mono ?_
  rintro e' w8 ⟨rfl, hb⟩
  have HB8 := hide (below_trans (unhide HB7) hb)
  clear hb HB7
  go_wp2_with fail
  refine (lnew_nil 1 _ (by decide) (by decide)).mono ?_
  rintro e' w9 ⟨rfl, hb⟩
  have HB9 := hide (below_trans (unhide HB8) hb)
  clear hb HB8
  go_wp2_with fail
  refine (new_any m (by omega) _).mono ?_
  rintro e' w10 ⟨c, g, rfl, hc, hg, har, hb⟩
  have HB10 := hide (below_trans (unhide HB9) hb)
  have HA10 := hide har
  clear hb HB9 hc hg har
  go_wp2_with fail
  refine (part_yes c g m 0 m _ 0 _ (unhide HA10) (by omega) (by omega)).mono ?_
  rintro e' w11 ⟨o, rfl, hpt, hom, ho, hb⟩
  have HB11 := hide (below_trans (unhide HB10) hb)
  have HP := hide hpt
  clear hpt hom ho hb HB10 HA10
  go_wp2_with fail
  by_cases h1 : width < 1
  · refine (lnew_low _ width _ h1).mono ?_
    rintro e' w12 ⟨rfl, hb⟩
    have HB12 := hide (below_trans (unhide HB11) hb)
    clear hb HB11
    go_wp2
    go_ret
    exact ⟨rfl, unhide HB12⟩
  · by_cases h2 : width ≤ (m : Int)
    · refine (lnew_yes _ c g o m width _ _ (unhide HP) (by omega) (by omega) (by omega) rfl (room_pos m width (by omega) h2)).mono ?_
      rintro e' w12 ⟨rfl, _, hb⟩
      have HB12 := hide (below_trans (unhide HB11) hb)
      clear hb HB11
      go_wp2
      go_ret
      exact ⟨rfl, unhide HB12⟩
    · refine (lnew_full _ c g o m width _ (unhide HP) (by omega) (unhide HW) (by omega) (room_zero m width (by omega))).mono ?_
      rintro e' w12 ⟨rfl, hb⟩
      have HB12 := hide (below_trans (unhide HB11) hb)
      clear hb HB11
      go_wp2
      go_ret
      exact ⟨by simp; omega, unhide HB12⟩
end Go.Proofs.Ytclikkhaaiihdaa
