/- The chapter's examples: awake returns true. CircleNone, CircleUnit, CircleTurns: they return true. -/
import Derived.Test.YtnncemagiobcbaaDoorWin
namespace Go.Proofs.YtnncemagiobcbaaDoor
open Go.RowKit
set_option linter.unusedVariables false

/-- A row that is not empty: where it lies. -/
theorem Lies.some {w : World} {a : Option Addr} {xs : List Int} (h : Lies w a xs) (h0 : xs ≠ []) :
    ∃ b off, a = some ⟨b, off, none⟩ ∧ b < w.heap.size ∧ ∀ j, j < xs.length → w.cell? ⟨b, off + j, none⟩ = some (.int .i64 (xs.getD j 0)) := by
  rcases h with h | h
  · exact absurd h h0
  · exact h

set_option maxRecDepth 100000 in
theorem awake_any (w : World) (hq : Quar w) : Calls Tryd.prog 8 #[] w fun e w' => e = .returned (.bool true) ∧ Below w.heap.size w w' := by
  have HQ := hide hq
  clear hq
  go_enter Tryd.func8, Tryd.ntmps8
  go_wp2_with fail
  refine (win_16 _ (unhide HQ)).mono ?_
  rintro e w1 ⟨a, cap, rfl, hl, hb1⟩
  obtain ⟨b, off, rfl, hlt, hc⟩ := hl.some (by decide +kernel)
  have HB1 := hide hb1
  have HQ1 := hide ((unhide HQ).below hb1)
  have hc0 : w1.cell? ⟨b, off, none⟩ = some (.int .i64 1310) := hc 0 (by decide)
  have hc8 : w1.cell? ⟨b, off + 8, none⟩ = some (.int .i64 16384) := hc 8 (by decide)
  clear hc hl hb1 HQ
  go_wp2_with fail
  refine (cos_any 8 _ (by constructor <;> decide) (unhide HQ1)).mono ?_
  rintro e w2 ⟨rfl, hb2⟩
  rw [show cosI 8 = 11585 from by decide +kernel]
  rw [← hb2.cell (p := ⟨b, _, none⟩) hlt] at hc0 hc8
  have HB2 := hide (below_trans (unhide HB1) hb2)
  have HQ2 := hide ((unhide HQ1).below hb2)
  have hlt2 : b < w2.heap.size := Nat.lt_of_lt_of_le hlt hb2.size
  clear hlt hb2 HQ1 HB1
  go_wp2_with fail
  refine (sin_any 8 _ (by constructor <;> decide) (unhide HQ2)).mono ?_
  rintro e w3 ⟨rfl, hb3⟩
  rw [show sinI 8 = 11585 from by decide +kernel]
  rw [← hb3.cell (p := ⟨b, _, none⟩) hlt2] at hc0 hc8
  have HB3 := hide (below_trans (unhide HB2) hb3)
  have HQ3 := hide ((unhide HQ2).below hb3)
  have hlt3 : b < w3.heap.size := Nat.lt_of_lt_of_le hlt2 hb3.size
  clear hlt2 hb3 HQ2 HB2
  go_wp2_with fail
  refine (cos_any 40 _ (by constructor <;> decide) (unhide HQ3)).mono ?_
  rintro e w4 ⟨rfl, hb4⟩
  rw [show cosI 40 = -11585 from by decide +kernel]
  rw [← hb4.cell (p := ⟨b, _, none⟩) hlt3] at hc0 hc8
  have HB4 := hide (below_trans (unhide HB3) hb4)
  clear hlt3 hb4 HQ3 HB3
  go_wp2
  go_ret
  exact ⟨rfl, unhide HB4⟩

theorem winI_len (n : Int) : (winI n).length = if n = 16 ∨ n = 32 ∨ n = 64 then n.toNat else 0 := by
  unfold winI
  split
  · simp [winOf]
  · rfl

set_option maxRecDepth 100000 in
theorem none_16 (w : World) (hq : Quar w) : Calls Tryd.prog 7 #[.int .i64 16] w fun e w' => e = .returned (.bool true) ∧ Below w.heap.size w w' := by
  have HQ := hide hq
  clear hq
  go_enter Tryd.func7, Tryd.ntmps7
  go_wp2_with fail
  refine (awake_any _ (unhide HQ)).mono ?_
  rintro e w1 ⟨rfl, hb1⟩
  have HB1 := hide hb1
  have HQ1 := hide ((unhide HQ).below hb1)
  clear hb1 HQ
  go_wp2_with fail
  refine (win_16 _ (unhide HQ1)).mono ?_
  rintro e w2 ⟨a, cap, rfl, _, hb2⟩
  have HB2 := hide (below_trans (unhide HB1) hb2)
  have HQ2 := hide ((unhide HQ1).below hb2)
  clear hb2 HQ1 HB1
  go_wp2_with fail
  refine (win_16 _ (unhide HQ2)).mono ?_
  rintro e w3 ⟨a', cap', rfl, _, hb3⟩
  have HB3 := hide (below_trans (unhide HB2) hb3)
  clear hb3 HQ2 HB2
  go_wp2
  go_ret
  exact ⟨rfl, unhide HB3⟩

set_option maxRecDepth 100000 in
theorem none_32 (w : World) (hq : Quar w) : Calls Tryd.prog 7 #[.int .i64 32] w fun e w' => e = .returned (.bool true) ∧ Below w.heap.size w w' := by
  have HQ := hide hq
  clear hq
  go_enter Tryd.func7, Tryd.ntmps7
  go_wp2_with fail
  refine (awake_any _ (unhide HQ)).mono ?_
  rintro e w1 ⟨rfl, hb1⟩
  have HB1 := hide hb1
  have HQ1 := hide ((unhide HQ).below hb1)
  clear hb1 HQ
  go_wp2_with fail
  refine (win_32 _ (unhide HQ1)).mono ?_
  rintro e w2 ⟨a, cap, rfl, _, hb2⟩
  have HB2 := hide (below_trans (unhide HB1) hb2)
  have HQ2 := hide ((unhide HQ1).below hb2)
  clear hb2 HQ1 HB1
  go_wp2_with fail
  refine (win_32 _ (unhide HQ2)).mono ?_
  rintro e w3 ⟨a', cap', rfl, _, hb3⟩
  have HB3 := hide (below_trans (unhide HB2) hb3)
  clear hb3 HQ2 HB2
  go_wp2
  go_ret
  exact ⟨rfl, unhide HB3⟩

set_option maxRecDepth 100000 in
theorem none_64 (w : World) (hq : Quar w) : Calls Tryd.prog 7 #[.int .i64 64] w fun e w' => e = .returned (.bool true) ∧ Below w.heap.size w w' := by
  have HQ := hide hq
  clear hq
  go_enter Tryd.func7, Tryd.ntmps7
  go_wp2_with fail
  refine (awake_any _ (unhide HQ)).mono ?_
  rintro e w1 ⟨rfl, hb1⟩
  have HB1 := hide hb1
  have HQ1 := hide ((unhide HQ).below hb1)
  clear hb1 HQ
  go_wp2_with fail
  refine (win_64 _ (unhide HQ1)).mono ?_
  rintro e w2 ⟨a, cap, rfl, _, hb2⟩
  have HB2 := hide (below_trans (unhide HB1) hb2)
  have HQ2 := hide ((unhide HQ1).below hb2)
  clear hb2 HQ1 HB1
  go_wp2_with fail
  refine (win_64 _ (unhide HQ2)).mono ?_
  rintro e w3 ⟨a', cap', rfl, _, hb3⟩
  have HB3 := hide (below_trans (unhide HB2) hb3)
  clear hb3 HQ2 HB2
  go_wp2
  go_ret
  exact ⟨rfl, unhide HB3⟩

theorem none_walk (n : Int) (w : World) (hq : Quar w) : Calls Tryd.prog 7 #[.int .i64 n] w fun e w' => e = .returned (.bool true) ∧ Below w.heap.size w w' := by
  by_cases h : n = 16 ∨ n = 32 ∨ n = 64
  · rcases h with rfl | rfl | rfl
    · exact none_16 w hq
    · exact none_32 w hq
    · exact none_64 w hq
  · have g1 : (n == 16) = false := by simp; exact fun e => h (.inl e)
    have g2 : (n == 32) = false := by simp; exact fun e => h (.inr (.inl e))
    have g3 : (n == 64) = false := by simp; exact fun e => h (.inr (.inr e))
    have HN := hide h
    have HQ := hide hq
    clear hq h
    go_enter Tryd.func7, Tryd.ntmps7
    go_wp2_with fail
    refine (awake_any _ (unhide HQ)).mono ?_
    rintro e w1 ⟨rfl, hb1⟩
    go_wp2_with fail
    refine (win_none n _ (unhide HN)).mono ?_
    rintro e w2 ⟨rfl, rfl⟩
    go_wp2
    go_ret
    exact ⟨rfl, hb1⟩

theorem cosI_of (k : Int) (r : Nat) (h : k % 64 = r) : cosI k = cosAt r := by unfold cosI; congr 1; omega
theorem cos_fall (r : Nat) (h : r < 32) : cosAt (r + 1) < cosAt r := by
  have : ∀ r, r < 32 → cosAt (r + 1) < cosAt r := by decide +kernel
  exact this r h
def sinAt (r : Nat) : Int := cosAt ((r + 48) % 64)
theorem sinI_of (k : Int) (r : Nat) (h : k % 64 = r) : sinI k = sinAt r := by unfold sinI sinAt; exact cosI_of _ _ (by omega)
theorem unit_at (r : Nat) (h : r < 64) : cosAt r * cosAt r + sinAt r * sinAt r ≤ 268468224 ∧ 268402688 ≤ cosAt r * cosAt r + sinAt r * sinAt r := by
  have : ∀ r, r < 64 → cosAt r * cosAt r + sinAt r * sinAt r ≤ 268468224 ∧ 268402688 ≤ cosAt r * cosAt r + sinAt r * sinAt r := by decide +kernel
  exact this r h
theorem unit_any (k : Int) : cosI k * cosI k + sinI k * sinI k ≤ 268468224 ∧ 268402688 ≤ cosI k * cosI k + sinI k * sinI k := by
  have hr : k % 64 = ((k % 64).toNat : Int) := by omega
  rw [cosI_of k _ hr, sinI_of k _ hr]
  exact unit_at _ (by omega)
theorem sq_bd (c : Int) (h1 : -16384 ≤ c) (h2 : c ≤ 16384) : 0 ≤ c * c ∧ c * c ≤ 268435456 := by
  have a := Int.mul_nonneg (show 0 ≤ 16384 - c by omega) (show 0 ≤ 16384 + c by omega)
  have e : (16384 - c) * (16384 + c) = 268435456 - c * c := by
    rw [Int.sub_mul, Int.mul_add, Int.mul_add]
    have := Int.mul_comm c 16384
    omega
  have : 0 ≤ c * c := by
    rcases Int.le_total 0 c with h | h
    · exact Int.mul_nonneg h h
    · have := Int.mul_nonneg (show 0 ≤ -c by omega) (show 0 ≤ -c by omega)
      rwa [Int.neg_mul_neg] at this
  omega
theorem mod5 (n : Int) : bits .and .i64 n 31 = n % 32 := i64_mask n 31 5 (by decide) (by decide)
theorem turn_at (r : Nat) (h : r < 64) : cosAt ((r + 32) % 64) = -cosAt r ∧ sinAt ((r + 32) % 64) = -sinAt r ∧ cosAt ((64 - r) % 64) = cosAt r ∧ sinAt ((64 - r) % 64) = -sinAt r ∧ sinAt ((r + 16) % 64) = cosAt r := by
  have : ∀ r, r < 64 → cosAt ((r + 32) % 64) = -cosAt r ∧ sinAt ((r + 32) % 64) = -sinAt r ∧ cosAt ((64 - r) % 64) = cosAt r ∧ sinAt ((64 - r) % 64) = -sinAt r ∧ sinAt ((r + 16) % 64) = cosAt r := by decide +kernel
  exact this r h
theorem turn_any (x : Int) : cosI (x + 32) = -cosI x ∧ sinI (x + 32) = -sinI x ∧ cosI (-x) = cosI x ∧ sinI (-x) = -sinI x ∧ sinI (x + 16) = cosI x := by
  obtain ⟨r, hr⟩ : ∃ r : Nat, x % 64 = r := ⟨(x % 64).toNat, by omega⟩
  have h := turn_at r (by omega)
  rw [cosI_of x r hr, sinI_of x r hr, cosI_of (x + 32) ((r + 32) % 64) (by omega), sinI_of (x + 32) ((r + 32) % 64) (by omega), cosI_of (-x) ((64 - r) % 64) (by omega), sinI_of (-x) ((64 - r) % 64) (by omega), sinI_of (x + 16) ((r + 16) % 64) (by omega)]
  exact h
theorem round_any (x m : Int) : cosI (x + 64 * m) = cosI x ∧ sinI (x + 64 * m) = sinI x := by
  unfold sinI cosI
  exact ⟨by congr 2; omega, by congr 2; omega⟩
theorem sinI_bd (k : Int) : -16384 ≤ sinI k ∧ sinI k ≤ 16384 := cosI_bd _

set_option maxRecDepth 100000 in
theorem unit_walk (k : Int) (w : World) (hk : In64 k) (hq : Quar w) : Calls Tryd.prog 5 #[.int .i64 k] w fun e w' => e = .returned (.bool true) ∧ Below w.heap.size w w' := by
  have HQ := hide hq
  have HK := hide hk
  clear hq
  obtain ⟨c, hc⟩ : ∃ c, cosI k = c := ⟨_, rfl⟩
  obtain ⟨s, hs⟩ : ∃ s, sinI k = s := ⟨_, rfl⟩
  have hcb := cosI_bd k
  have hsb := sinI_bd k
  have hu := unit_any k
  rw [hc] at hcb hu
  rw [hs] at hsb hu
  have hcc := sq_bd c hcb.1 hcb.2
  have hss := sq_bd s hsb.1 hsb.2
  have HC := hide hc
  have HS := hide hs
  clear hc hs
  obtain ⟨r, hr, hr2⟩ : ∃ r : Nat, bits .and .i64 (k % 64) 31 = r ∧ r < 32 := ⟨(k % 64 % 32).toNat, by rw [mod5]; omega, by omega⟩
  have HR := hide hr
  clear hr
  have hf := cos_fall r hr2
  have hf0 := cosAt_bd r
  have hf1 := cosAt_bd (r + 1)
  have HF := hide (show cosI r = cosAt r from cosI_at r (by omega))
  have HF1 := hide (show cosI ((r : Int) + 1) = cosAt (r + 1) from cosI_at (r + 1) (by omega))
  generalize cosAt (r + 1) = f1 at hf hf1 HF1
  generalize cosAt r = f0 at hf hf0 HF
  go_enter Tryd.func5, Tryd.ntmps5
  go_wp2_with fail
  refine (awake_any _ (unhide HQ)).mono ?_
  rintro e w1 ⟨rfl, hb⟩
  have HB1 := hide hb
  have HQ1 := hide ((unhide HQ).below hb)
  clear hb HQ
  go_wp2_with fail
  refine (cos_any k _ (unhide HK) (unhide HQ1)).mono ?_
  rintro e w2 ⟨rfl, hb⟩
  rw [unhide HC]
  have HB2 := hide (below_trans (unhide HB1) hb)
  have HQ2 := hide ((unhide HQ1).below hb)
  clear hb HQ1 HB1
  go_wp2_with fail
  refine (sin_any k _ (unhide HK) (unhide HQ2)).mono ?_
  rintro e w3 ⟨rfl, hb⟩
  rw [unhide HS]
  have HB3 := hide (below_trans (unhide HB2) hb)
  have HQ3 := hide ((unhide HQ2).below hb)
  clear hb HQ2 HB2
  go_wp2_with fail
  refine (rest_any k _ (unhide HK)).mono ?_
  rintro e w4 ⟨rfl, hb⟩
  have HB4 := hide (below_trans (unhide HB3) hb)
  have HQ4 := hide ((unhide HQ3).below hb)
  clear hb HQ3 HB3
  go_wp2_with fail
  rw [unhide HR]
  refine (cos_any r _ (by unfold In64; omega) (unhide HQ4)).mono ?_
  rintro e w5 ⟨rfl, hb⟩
  rw [unhide HF]
  have HB5 := hide (below_trans (unhide HB4) hb)
  have HQ5 := hide ((unhide HQ4).below hb)
  clear hb HQ4 HB4
  go_wp2_with fail
  refine (cos_any (r + 1) _ (by unfold In64; omega) (unhide HQ5)).mono ?_
  rintro e w6 ⟨rfl, hb⟩
  rw [unhide HF1]
  have HB6 := hide (below_trans (unhide HB5) hb)
  have HQ6 := hide ((unhide HQ5).below hb)
  clear hb HQ5 HB5
  go_wp2_with fail
  refine (cos_any 0 _ (by constructor <;> decide) (unhide HQ6)).mono ?_
  rintro e w7 ⟨rfl, hb⟩
  rw [show cosI 0 = 16384 from by decide +kernel]
  have HB7 := hide (below_trans (unhide HB6) hb)
  have HQ7 := hide ((unhide HQ6).below hb)
  clear hb HQ6 HB6
  go_wp2_with fail
  refine (cos_any 16 _ (by constructor <;> decide) (unhide HQ7)).mono ?_
  rintro e w8 ⟨rfl, hb⟩
  rw [show cosI 16 = 0 from by decide +kernel]
  have HB8 := hide (below_trans (unhide HB7) hb)
  have HQ8 := hide ((unhide HQ7).below hb)
  clear hb HQ7 HB7
  go_wp2_with fail
  refine (cos_any 32 _ (by constructor <;> decide) (unhide HQ8)).mono ?_
  rintro e w9 ⟨rfl, hb⟩
  rw [show cosI 32 = -16384 from by decide +kernel]
  have HB9 := hide (below_trans (unhide HB8) hb)
  have HQ9 := hide ((unhide HQ8).below hb)
  clear hb HQ8 HB8
  go_wp2
  go_ret
  exact ⟨rfl, unhide HB9⟩
end Go.Proofs.YtnncemagiobcbaaDoor
