/- The walk of SatMul. -/
import Derived.Test.YtofmkhjdnmgdlaaAwake
import Derived.Test.YtofmkhjdnmgdlaaMul
namespace Go.Proofs.Ytofmkhjdnmgdlaa
open Go.RowKit
set_option linter.unusedVariables false

theorem num_in (n : Int) (h : In64 n) : num64 n = n ∧ ok64 n = true := by
  obtain ⟨h1, h2⟩ := h
  unfold num64 ok64
  exact ⟨by rw [if_pos ⟨h1, h2⟩], decide_eq_true ⟨h1, h2⟩⟩
theorem num_out (n : Int) (h : ¬ In64 n) : num64 n = 0 ∧ ok64 n = false := by
  unfold In64 at h
  unfold num64 ok64
  exact ⟨by rw [if_neg h], decide_eq_false h⟩

theorem prod32 (c d : Int) (hc1 : -2147483648 ≤ c) (hc2 : c ≤ 2147483647) (hd1 : -2147483648 ≤ d) (hd2 : d ≤ 2147483647) : -4611686018427387904 ≤ c * d ∧ c * d ≤ 4611686018427387904 := by
  have n1 : c.natAbs ≤ 2147483648 := by omega
  have n2 : d.natAbs ≤ 2147483648 := by omega
  have n3 := Nat.mul_le_mul n1 n2
  rw [← Int.natAbs_mul] at n3
  omega

theorem sizeI_bd (x : Int) (hx : In64 x) (h0 : ¬ x = 0) : 1 ≤ sizeI x ∧ sizeI x ≤ 9223372036854775808 := by
  obtain ⟨h1, h2⟩ := hx
  unfold sizeI
  split <;> omega
theorem size_mul (a b : Int) : sizeI a * sizeI b = if (decide (a < 0) == decide (b < 0)) = true then a * b else -(a * b) := by
  unfold sizeI
  by_cases c1 : a < 0 <;> by_cases c2 : b < 0 <;> simp [c1, c2, Int.neg_mul, Int.mul_neg]
theorem sgn_mul (a b : Int) : ((decide (a < 0) == decide (b < 0)) = true → 0 ≤ a * b) ∧ (¬ (decide (a < 0) == decide (b < 0)) = true → a * b ≤ 0) := by
  constructor
  · intro h
    by_cases c1 : a < 0
    · have c2 : b < 0 := by simpa [c1] using h
      have := Int.mul_nonneg (a := -a) (b := -b) (by omega) (by omega)
      rwa [Int.neg_mul_neg] at this
    · have c2 : ¬ b < 0 := by simpa [c1] using h
      exact Int.mul_nonneg (by omega) (by omega)
  · intro h
    by_cases c1 : a < 0
    · have c2 : ¬ b < 0 := by simpa [c1] using h
      exact Int.mul_nonpos_of_nonpos_of_nonneg (by omega) (by omega)
    · have c2 : b < 0 := by simpa [c1] using h
      exact Int.mul_nonpos_of_nonneg_of_nonpos (by omega) (by omega)
theorem lt_of_prod (u v M : Int) (hu : 1 ≤ u) (h : M < u * v) : M / u < v := by
  rcases Int.lt_or_le (M / u) v with h' | h'
  · exact h'
  · have h1 := Int.mul_le_mul_of_nonneg_left h' (by omega : 0 ≤ u)
    have h2 : u * (M / u) ≤ M := Int.mul_ediv_self_le (by omega)
    omega
theorem minus_one (x y b : Int) (hx : x = b) (hy : y = 0) (hb : -9223372036854775808 < b) : (x != -9223372036854775808 && y == 0) = true := by
  subst hx hy
  simp
  omega
theorem over_same (a b : Int) (ha : In64 a) (hb : In64 b) (a0 : ¬ a = 0) (hin : ¬ In64 (a * b)) (hs : (decide (a < 0) == decide (b < 0)) = true) : 9223372036854775807 / sizeI a < sizeI b := by
  have h1 := (sgn_mul a b).1 hs
  refine lt_of_prod _ _ _ (sizeI_bd a ha a0).1 ?_
  rw [size_mul, if_pos hs]
  unfold In64 at hin
  omega
theorem over_other (a b : Int) (ha : In64 a) (hb : In64 b) (a0 : ¬ a = 0) (hin : ¬ In64 (a * b)) (hs : ¬ (decide (a < 0) == decide (b < 0)) = true) : 9223372036854775808 / sizeI a < sizeI b := by
  have h1 := (sgn_mul a b).2 hs
  refine lt_of_prod _ _ _ (sizeI_bd a ha a0).1 ?_
  rw [size_mul, if_neg hs]
  unfold In64 at hin
  omega

set_option maxHeartbeats 1000000 in
theorem mul_walk (a b c d : Int) (w : World) (ha : In64 a) (hb : In64 b) (hc1 : -2147483648 ≤ c) (hc2 : c ≤ 2147483647) (hd1 : -2147483648 ≤ d) (hd2 : d ≤ 2147483647) :
    Calls Try.prog 6 #[.int .i64 a, .int .i64 b, .agg #[.int .i32 c, .int .i32 d]] w fun e w' => e = .returned (.bool true) ∧ Below w.heap.size w w' := by
  have hp := prod32 c d hc1 hc2 hd1 hd2
  go_enter Try.func6, Try.ntmps6
  go_wp2_with fail
  refine (awake_any _).mono ?_
  rintro e w1 ⟨rfl, hb1⟩
  have k0 : w1.cell? ⟨w.heap.size, 0, none⟩ = some (.int .i32 c) := by
    rw [hb1.cell (p := ⟨w.heap.size, 0, none⟩) (by simp), World.cell?_alloc_at _ _ _ _ rfl]; rfl
  have k1 : w1.cell? ⟨w.heap.size, 1, none⟩ = some (.int .i32 d) := by
    rw [hb1.cell (p := ⟨w.heap.size, 1, none⟩) (by simp), World.cell?_alloc_at _ _ _ _ rfl]; rfl
  have hbl : Below w.heap.size w w1 := ((Below.refl _ w).alloc (Nat.le_refl _) _).trans (hb1.mono (by simp))
  clear hb1
  go_wp2_with fail
  refine (mul_any _ _ _ ha hb).mono ?_
  rintro e w2 ⟨rfl, rfl⟩
  go_wp2_with fail
  refine (mul_any _ _ _ hb ha).mono ?_
  rintro e w2 ⟨rfl, rfl⟩
  rw [Int.mul_comm b a]
  go_wp2_with fail
  refine (mul_any _ _ _ ⟨by omega, by omega⟩ ⟨by omega, by omega⟩).mono ?_
  rintro e w3 ⟨rfl, rfl⟩
  rw [(num_in (c * d) ⟨by omega, by omega⟩).1, (num_in (c * d) ⟨by omega, by omega⟩).2]
  have Hn := hide (num_in (a * b))
  have Ho := hide (num_out (a * b))
  generalize hcd : c * d = cd at *
  by_cases a0 : a = 0
  · have hz : a * b = 0 := by rw [a0, Int.zero_mul]
    have h1 := (unhide Hn) (by rw [hz]; exact ⟨by decide, by decide⟩)
    rw [h1.1, h1.2, hz]
    clear Hn Ho h1 hz
    subst a0
    go_wp2
    go_ret
    exact ⟨rfl, hbl⟩
  by_cases b0 : b = 0
  · have hz : a * b = 0 := by rw [b0, Int.mul_zero]
    have h1 := (unhide Hn) (by rw [hz]; exact ⟨by decide, by decide⟩)
    rw [h1.1, h1.2, hz]
    clear Hn Ho h1 hz
    subst b0
    have a0' : (a == 0) = false := by simpa using a0
    go_wp2
    go_ret
    exact ⟨rfl, hbl⟩
  have a0' : (a == 0) = false := by simpa using a0
  have b0' : (b == 0) = false := by simpa using b0
  obtain ⟨al, ah⟩ := ha
  obtain ⟨bl, bh⟩ := hb
  by_cases a1 : a = -1
  · subst a1
    by_cases bm : b = -9223372036854775808
    · subst bm
      rw [show num64 (-1 * -9223372036854775808) = 0 by decide, show ok64 (-1 * -9223372036854775808) = false by decide]
      clear Hn Ho
      have hww : wrap64 (wrap64 (-9223372036854775809) + 1) = -9223372036854775808 := by unfold wrap64; omega
      go_wp2
      go_ret
      exact ⟨rfl, hbl⟩
    · have h1 := (unhide Hn) ⟨by omega, by omega⟩
      rw [h1.1, h1.2, show -1 * b = -b by omega]
      clear Hn Ho h1
      have bm' : -9223372036854775808 < b := by omega
      go_wp2
      go_ret
      exact ⟨ret_bool (minus_one _ _ b (by omega) (by omega) bm'), hbl⟩
  have a1' : (a == -1) = false := by simpa using a1
  by_cases b1 : b = -1
  · subst b1
    by_cases am : a = -9223372036854775808
    · subst am
      rw [show num64 (-9223372036854775808 * -1) = 0 by decide, show ok64 (-9223372036854775808 * -1) = false by decide]
      clear Hn Ho
      have hww : wrap64 (wrap64 (-9223372036854775809) + 1) = -9223372036854775808 := by unfold wrap64; omega
      go_wp2
      go_ret
      exact ⟨rfl, hbl⟩
    · have h1 := (unhide Hn) ⟨by omega, by omega⟩
      rw [h1.1, h1.2, show a * -1 = -a by omega]
      clear Hn Ho h1
      have am' : -9223372036854775808 < a := by omega
      go_wp2
      go_ret
      exact ⟨ret_bool (minus_one _ _ a (by omega) (by omega) am'), hbl⟩
  have b1' : (b == -1) = false := by simpa using b1
  by_cases hin : In64 (a * b)
  · have h1 := (unhide Hn) hin
    rw [h1.1, h1.2]
    clear Hn Ho h1
    have hwb : wrap64 b = b := w64_in ⟨bl, bh⟩
    go_wp2
    go_ret
    exact ⟨rfl, hbl⟩
  · have h1 := (unhide Ho) hin
    rw [h1.1, h1.2]
    clear Hn Ho h1
    have sa := sizeI_bd a ⟨al, ah⟩ a0
    have sb := sizeI_bd b ⟨bl, bh⟩ b0
    by_cases hs : (decide (a < 0) == decide (b < 0)) = true
    · have hq := over_same a b ⟨al, ah⟩ ⟨bl, bh⟩ a0 hin (by simpa using hs)
      go_wp2_with fail
      refine (size_any _ _ ⟨bl, bh⟩).mono ?_
      rintro e w4 ⟨rfl, rfl⟩
      go_wp2_with fail
      refine (size_any _ _ ⟨al, ah⟩).mono ?_
      rintro e w4 ⟨rfl, rfl⟩
      generalize sizeI a = u at *
      generalize sizeI b = v at *
      obtain ⟨u1, u2⟩ := sa
      obtain ⟨v1, v2⟩ := sb
      go_wp2
      go_ret
      exact ⟨rfl, hbl⟩
    · have hs' : (decide (a < 0) == decide (b < 0)) = false := by simpa using hs
      have hq := over_other a b ⟨al, ah⟩ ⟨bl, bh⟩ a0 hin (by simpa using hs)
      clear hs
      go_wp2_with fail
      refine (size_any _ _ ⟨bl, bh⟩).mono ?_
      rintro e w4 ⟨rfl, rfl⟩
      go_wp2_with fail
      refine (size_any _ _ ⟨al, ah⟩).mono ?_
      rintro e w4 ⟨rfl, rfl⟩
      generalize sizeI a = u at *
      generalize sizeI b = v at *
      obtain ⟨u1, u2⟩ := sa
      obtain ⟨v1, v2⟩ := sb
      go_wp2
      go_ret
      exact ⟨rfl, hbl⟩
end Go.Proofs.Ytofmkhjdnmgdlaa
