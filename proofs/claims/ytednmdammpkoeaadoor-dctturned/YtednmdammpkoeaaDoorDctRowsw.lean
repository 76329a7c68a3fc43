/- DctRows: the walk. -/
import Derived.Test.YtednmdammpkoeaaDoorDctWake
namespace Go.Proofs.YtednmdammpkoeaaDoor
open Go.RowKit
set_option linter.unusedVariables false

theorem and_mayD (k : Int) (N : Nat) (h : mayD N) : ∃ i : Nat, i < N ∧ bits .and .i64 k ((N : Int) - 1) = (i : Int) := by
  have key : ∀ m : Int, 0 < m → ∃ i : Nat, (i : Int) < m ∧ k % m = (i : Int) := fun m hm => ⟨(k % m).toNat, by have := Int.emod_lt_of_pos k hm; have := Int.emod_nonneg k (show m ≠ 0 by omega); omega, by have := Int.emod_nonneg k (show m ≠ 0 by omega); omega⟩
  rcases h with rfl | rfl | rfl
  · obtain ⟨i, h1, h2⟩ := key 4 (by decide); exact ⟨i, by omega, (i64_mask k 3 2 (by decide) (by decide)).trans h2⟩
  · obtain ⟨i, h1, h2⟩ := key 8 (by decide); exact ⟨i, by omega, (i64_mask k 7 3 (by decide) (by decide)).trans h2⟩
  · obtain ⟨i, h1, h2⟩ := key 16 (by decide); exact ⟨i, by omega, (i64_mask k 15 4 (by decide) (by decide)).trans h2⟩

set_option maxRecDepth 100000 in
theorem dctrows_walk (x k : Int) (w : World) (hx : In64 x) (hk : In64 k) (hq : Quar w) :
    Calls Tryd.prog 5 #[.int .i64 x, .int .i64 k] w fun e w' => e = .returned (.bool true) ∧ Below w.heap.size w w' := by
  obtain ⟨N, hN, hz⟩ := size3 x hx
  obtain ⟨i, hi, hb⟩ := and_mayD k N hN
  have hN16 := (mayD_le hN).2
  have hN4 := (mayD_le hN).1
  have HN := hide hN
  have HQ := hide hq
  have HZ := hide hz
  clear hN hq
  go_enter Tryd.func5, Tryd.ntmps5
  go_wp2_with fail
  refine (dct_awake w (unhide HQ)).mono ?_
  rintro e w1 ⟨rfl, hb1⟩
  have HB1 := hide hb1
  have HQ1 := hide ((unhide HQ).below hb1)
  clear hb1
  go_wp2_with fail
  rw [unhide HZ]
  clear hz
  refine (row_yes N i w1 (unhide HN) hi (unhide HQ1)).mono ?_
  rintro e w2 ⟨a1, l1, c1, rfl, hl1, hlies, hb2⟩
  obtain rfl : N = l1 := by rw [← hl1, cosRow_len]
  have HR := hide hlies
  have HB2 := hide (below_trans (unhide HB1) hb2)
  clear hlies hb2 hl1
  go_wp2
  go_loopw [10, 9] (fun j v wr => ∃ m : Nat, m ≤ N ∧ j = .int .i64 (m : Int) ∧ Hid (v = .int .i64 (sumF (rowAt N i) m)) ∧ Hid (∃ d, wr = w2.drewN d))
    (fun j _ _ => N - (intOf j).toNat)
  case atStart => exact ⟨0, by omega, rfl, rfl, 0, rfl⟩
  case round =>
    obtain ⟨m, hm, rfl, HV, HD⟩ := hrel
    obtain ⟨s, hs⟩ : ∃ s, sumF (rowAt N i) m = s := ⟨_, rfl⟩
    have hsb : -(16384 * (m : Int)) ≤ s ∧ s ≤ 16384 * (m : Int) := by
      have := sumF_bd (rowAt N i) 16384 m fun t _ => rowAt_bd N i t
      rw [hs] at this; omega
    rw [hs] at HV
    have hv := unhide HV
    subst hv
    have HSS := hide hs
    clear HV hs
    by_cases hlt : m < N
    · obtain ⟨b1, o1, rfl, hlt1, hc1⟩ := (unhide HR).some (by intro h; have := cosRow_len N i; rw [h] at this; simp at this; omega)
      obtain ⟨p, hp⟩ : ∃ p, p + m + 1 = N := ⟨N - 1 - m, by omega⟩
      have hpi : (N : Int) - 1 - (m : Int) = (p : Int) := by omega
      obtain ⟨r, hr⟩ : ∃ r, rowAt N i m = r := ⟨_, rfl⟩
      have hrb := rowAt_bd N i m
      have ht := row_turn N i m (unhide HN) hi hlt
      rw [hr] at hrb ht
      obtain ⟨q, hqq⟩ : ∃ q, rowAt N i p = q := ⟨_, rfl⟩
      rw [show N - 1 - m = p by omega, hqq] at ht
      have hr0 : i = 0 → r = 16384 := fun e => by rw [← hr, e, row_zero]
      have cr : wr.cell? ⟨b1, o1 + m, none⟩ = some (.int .i64 r) := by
        obtain ⟨d, rfl⟩ := unhide HD
        show w2.cell? ⟨b1, o1 + m, none⟩ = _
        rw [hc1 m (by rw [cosRow_len]; exact hlt), cosRow, mkL_at _ _ _ hlt, hr]
      have cq : wr.cell? ⟨b1, o1 + p, none⟩ = some (.int .i64 q) := by
        obtain ⟨d, rfl⟩ := unhide HD
        show w2.cell? ⟨b1, o1 + p, none⟩ = _
        rw [hc1 p (by rw [cosRow_len]; omega), cosRow, mkL_at _ _ _ (by omega), hqq]
      have HNX := hide (show sumF (rowAt N i) (m + 1) = s + r by rw [← unhide HSS, ← hr]; rfl)
      clear hc1 hr hqq
      by_cases c0 : i = 0
      · subst c0
        have h16 := hr0 rfl
        subst h16
        rw [if_neg (by decide)] at ht
        subst ht
        clear hr0
        go_wp2_with fail
        go_roundw
        case rel => exact ⟨m + 1, by omega, by simp, by show _ = _; rw [unhide HNX], HD⟩
        case measure => simp [intOf]; omega
      · have e0 : (i == 0) = false := by simp; exact c0
        clear hr0
        by_cases c1 : i % 2 = 1
        · rw [if_pos c1] at ht
          have e1 : (i : Int) % 2 = 1 := by omega
          have e2 : 0 - q = r := by omega
          clear ht
          go_wp2_with fail
          go_roundw
          case rel => exact ⟨m + 1, by omega, by simp, by show _ = _; rw [unhide HNX], HD⟩
          case measure => simp [intOf]; omega
        · rw [if_neg c1] at ht
          subst ht
          have e1 : (i : Int) % 2 = 0 := by omega
          go_wp2_with fail
          go_roundw
          case rel => exact ⟨m + 1, by omega, by simp, by show _ = _; rw [unhide HNX], HD⟩
          case measure => simp [intOf]; omega
    · obtain rfl : m = N := by omega
      have HB5 : Hid (Below w.heap.size w wr) := by obtain ⟨d, rfl⟩ := unhide HD; exact below_trans (unhide HB2) (below_drewN w2 d)
      by_cases c0 : i = 0
      · subst c0
        have h16 : s = (m : Int) * 16384 := by rw [← unhide HSS, row_sum0]
        subst h16
        go_wp2
        go_ret
        exact ⟨rfl, unhide HB5⟩
      · have h16 : s = 0 := by rw [← unhide HSS]; exact row_sum m i (unhide HN) hi (by omega)
        subst h16
        have e0 : (i == 0) = false := by simp; exact c0
        have e1 : 0 < i := by omega
        go_wp2
        go_ret
        exact ⟨rfl, unhide HB5⟩
end Go.Proofs.YtednmdammpkoeaaDoor
