/- The walk of RoundNear. -/
import Derived.Test.YtgfdiafeminofaaWake
namespace Go.Proofs.Ytgfdiafeminofaa
open Go.RowKit
set_option linter.unusedVariables false

theorem near_div (y m : Int) (h : 1 ≤ m) : -m ≤ 2 * (y - divI y m * m) ∧ 2 * (y - divI y m * m) < m := by
  have h1 := Int.mul_ediv_add_emod y m
  have h2 := rem_bd y m h
  by_cases c : m - y % m ≤ y % m
  · rw [divI_up y m h c, Int.add_mul, Int.mul_comm (y / m) m]; omega
  · rw [divI_down y m h c, Int.mul_comm (y / m) m]; omega
theorem div_whole (z m : Int) (h : 1 ≤ m) : divI (z * m) m = z := by
  rw [divI_eq _ _ h, show 2 * (z * m) + m = m + z * (2 * m) by rw [Int.mul_left_comm]; omega, Int.add_mul_ediv_right _ _ (by omega), Int.ediv_eq_zero_of_lt (by omega) (by omega)]; omega
theorem half_zero (y : Int) : halfI y 0 = y := by
  rw [halfI_yes y 0 (by decide) (by decide), show two 0 = 1 by decide]
  have := div_whole y 1 (by decide)
  rwa [Int.mul_one] at this
theorem mod_bd (t n : Int) (h1 : 1 ≤ n) (h2 : n ≤ 1000000) : 0 ≤ (wrap64 (t.tmod n + n)).tmod n ∧ (wrap64 (t.tmod n + n)).tmod n < n := by
  have h3 := Int.tmod_lt_of_pos t (b := n) (by omega)
  have h4 := Int.lt_tmod_of_pos t (b := n) (by omega)
  rw [w64_in (n := t.tmod n + n) ⟨by omega, by omega⟩]
  exact ⟨Int.tmod_nonneg _ (by omega), Int.tmod_lt_of_pos _ (by omega)⟩
theorem prod_in (z m : Int) (h1 : -1073741824 ≤ z) (h2 : z ≤ 1073741823) (h3 : 1 ≤ m) (h4 : m ≤ 1073741824) : -1152921504606846976 ≤ z * m ∧ z * m ≤ 1152921504606846976 := by
  have n1 : z.natAbs ≤ 1073741824 := by omega
  have n2 : m.natAbs ≤ 1073741824 := by omega
  have n3 := Nat.mul_le_mul n1 n2
  rw [← Int.natAbs_mul] at n3
  omega
theorem mod30 (n : Int) : bits .and .i64 n 1073741823 = n % 1073741824 := i64_mask n 1073741823 30 (by decide) (by decide)

set_option maxHeartbeats 1000000 in
theorem near_walk (x n s : Int) (w : World) (hx : In64 x) :
    Calls Try.prog 4 #[.int .i64 x, .int .i64 n, .int .i64 s] w fun e w' => e = .returned (.bool true) ∧ Below w.heap.size w w' := by
  go_enter Try.func4, Try.ntmps4
  go_wp2_with fail
  refine (awake_any _).mono ?_
  rintro e w1 ⟨rfl, hb1⟩
  have hm := mod_bd s 60 (by decide) (by decide)
  go_wp2_with fail
  have hmm : 1 ≤ wrap64 (1 + bits BinOp.and IntKind.i64 n 1073741823) ∧ wrap64 (1 + bits BinOp.and IntKind.i64 n 1073741823) ≤ 1073741824 := by
    rw [mod30, w64_in ⟨by omega, by omega⟩]; omega
  generalize wrap64 (1 + bits BinOp.and IntKind.i64 n 1073741823) = m at *
  generalize (wrap64 (s.tmod 60 + 60)).tmod 60 = k0 at *
  have hy : -2305843009213693952 ≤ x / 4 ∧ x / 4 ≤ 2305843009213693951 := by obtain ⟨h1, h2⟩ := hx; omega
  generalize x / 4 = y at *
  obtain ⟨hy1, hy2⟩ := hy
  obtain ⟨hm1, hm2⟩ := hmm
  obtain ⟨hk1, hk2⟩ := hm
  have hd := near_div y m hm1
  have hh := near_div y (two (1 + k0)) (two_pos _)
  have HH := hide (halfI_yes y (1 + k0) (by omega) (by omega))
  have ht := two_succ k0 hk1
  rw [Int.add_comm k0 1] at ht
  have ht1 := two_pos k0
  have ht2 := two_le k0 59 (by omega)
  rw [show (2 : Int) ^ 59 = 576460752303423488 by decide] at ht2
  refine (div_any _ _ _ ⟨by omega, by omega⟩ ⟨by omega, by omega⟩).mono ?_
  rintro e w2 ⟨rfl, hb2⟩
  go_wp2_with fail
  refine (half_any _ _ _ ⟨by omega, by omega⟩).mono ?_
  rintro e w3 ⟨rfl, hb3⟩
  rw [unhide HH]
  generalize divI y m = d at *
  generalize divI y (two (1 + k0)) = h at *
  generalize hP : d * m = P at *
  obtain ⟨hd1, hd2⟩ := hd
  obtain ⟨hh1, hh2⟩ := hh
  have e1 : (2 : Int) ^ (1 + k0).toNat = two (1 + k0) := rfl
  have e2 : (2 : Int) ^ ((1 + k0).toNat - 1) = two k0 := by rw [show (1 + k0).toNat - 1 = k0.toNat by omega]; rfl
  have e3 : (-2 : Int) ^ ((1 + k0).toNat - 1) = (-2) ^ ((1 + k0).toNat - 1) := rfl
  have hb1' := hb1
  clear hb1 e3
  rw [ht] at hh1 hh2 e1
  clear ht
  generalize two k0 = t at *
  generalize hQ : h * (2 * t) = Q at *
  have hz : -1073741824 ≤ y / 2147483648 ∧ y / 2147483648 ≤ 1073741823 := by omega
  have hzm := prod_in (y / 2147483648) m hz.1 hz.2 hm1 hm2
  have HW := hide (div_whole (y / 2147483648) m hm1)
  have HZ := hide (half_zero y)
  have hzw : wrap64 (y / 2147483648 * m) = y / 2147483648 * m := w64_in ⟨by omega, by omega⟩
  obtain ⟨hz1, hz2⟩ := hz
  obtain ⟨hzm1, hzm2⟩ := hzm
  go_wp2_with fail
  refine (div_any _ _ _ ⟨by omega, by omega⟩ ⟨by omega, by omega⟩).mono ?_
  rintro e w4 ⟨rfl, hb4⟩
  rw [unhide HW]
  go_wp2_with fail
  refine (half_any _ _ _ ⟨by omega, by omega⟩).mono ?_
  rintro e w5 ⟨rfl, hb5⟩
  rw [unhide HZ]
  go_wp2
  go_ret
  exact ⟨rfl, below_trans (below_trans (below_trans (below_trans hb1' hb2) hb3) hb4) hb5⟩
end Go.Proofs.Ytgfdiafeminofaa
