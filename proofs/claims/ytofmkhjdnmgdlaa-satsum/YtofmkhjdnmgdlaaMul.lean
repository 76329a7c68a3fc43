/- The contract of sat.Mul: the product and true where it fits 64 bits, else 0 and false; the world is unchanged. -/
import Derived.Test.YtofmkhjdnmgdlaaLeaf
namespace Go.Proofs.Ytofmkhjdnmgdlaa
open Go.RowKit
set_option linter.unusedVariables false

theorem prod_bd (a b : Int) (ha : In64 a) (hb : In64 b) : -85070591730234615865843651857942052864 ≤ a * b ∧ a * b ≤ 85070591730234615865843651857942052864 := by
  obtain ⟨a1, a2⟩ := ha
  obtain ⟨b1, b2⟩ := hb
  have n1 : a.natAbs ≤ 9223372036854775808 := by omega
  have n2 : b.natAbs ≤ 9223372036854775808 := by omega
  have n3 := Nat.mul_le_mul n1 n2
  rw [← Int.natAbs_mul] at n3
  omega

/-- The upper half, whatever the signs. -/
theorem mul_top (a b : Int) (ha : In64 a) (hb : In64 b) :
    (a % 18446744073709551616) * (b % 18446744073709551616) % 18446744073709551616 = a * b % 18446744073709551616 ∧
    (a % 18446744073709551616) * (b % 18446744073709551616) / 18446744073709551616 = a * b / 18446744073709551616 + (if a < 0 then b else 0) + (if b < 0 then a else 0) + (if a < 0 ∧ b < 0 then 18446744073709551616 else 0) := by
  have hp := prod_bd a b ha hb
  obtain ⟨a1, a2⟩ := ha
  obtain ⟨b1, b2⟩ := hb
  have ea : a % 18446744073709551616 = if a < 0 then a + 18446744073709551616 else a := by split <;> omega
  have eb : b % 18446744073709551616 = if b < 0 then b + 18446744073709551616 else b := by split <;> omega
  rw [ea, eb]
  by_cases c1 : a < 0 <;> by_cases c2 : b < 0
  · simp only [c1, c2, if_true, and_self]
    have e : (a + 18446744073709551616) * (b + 18446744073709551616) = a * b + (a + b + 18446744073709551616) * 18446744073709551616 := by grind
    rw [e]
    generalize a * b = P at *
    omega
  · simp only [c1, c2, if_true, if_false, and_false]
    have e : (a + 18446744073709551616) * b = a * b + b * 18446744073709551616 := by grind
    rw [e]
    generalize a * b = P at *
    omega
  · simp only [c1, c2, if_true, if_false, false_and]
    have e : a * (b + 18446744073709551616) = a * b + a * 18446744073709551616 := by grind
    rw [e]
    generalize a * b = P at *
    omega
  · simp [c1, c2]

theorem mul_ret (a b t r : Int) (h : t * 18446744073709551616 + r = a * b) :
    Ending.returned (.tuple #[.int .i64 (num64 (t * 18446744073709551616 + r)), .bool (ok64 (t * 18446744073709551616 + r))]) = Ending.returned (.tuple #[.int .i64 (num64 (a * b)), .bool (ok64 (a * b))]) := by rw [h]

theorem top2 (P q b c : Int) (hP : -85070591730234615865843651857942052864 ≤ P ∧ P ≤ 85070591730234615865843651857942052864) (e : q = P / 18446744073709551616 + b + c + 18446744073709551616) :
    wrap64 (wrap64 (wrap64 q - b) - c) * 18446744073709551616 + P % 18446744073709551616 = P := by
  have h : wrap64 (wrap64 (wrap64 q - b) - c) = P / 18446744073709551616 := by
    subst e; unfold wrap64; omega
  rw [h]; omega
theorem top1 (P q b : Int) (hP : -85070591730234615865843651857942052864 ≤ P ∧ P ≤ 85070591730234615865843651857942052864) (e : q = P / 18446744073709551616 + b) :
    wrap64 (wrap64 q - b) * 18446744073709551616 + P % 18446744073709551616 = P := by
  have h : wrap64 (wrap64 q - b) = P / 18446744073709551616 := by
    subst e; unfold wrap64; omega
  rw [h]; omega
theorem top0 (P q : Int) (hP : -85070591730234615865843651857942052864 ≤ P ∧ P ≤ 85070591730234615865843651857942052864) (e : q = P / 18446744073709551616) :
    wrap64 q * 18446744073709551616 + P % 18446744073709551616 = P := by
  have h : wrap64 q = P / 18446744073709551616 := by
    subst e; unfold wrap64; omega
  rw [h]; omega

set_option maxHeartbeats 400000 in
theorem mul_any (a b : Int) (w : World) (ha : In64 a) (hb : In64 b) :
    Calls Try.prog 12 #[.int .i64 a, .int .i64 b] w fun e w' => e = .returned (.tuple #[.int .i64 (num64 (a * b)), .bool (ok64 (a * b))]) ∧ w' = w := by
  have H := hide (mul_top a b ha hb)
  have Hp := hide (prod_bd a b ha hb)
  have k1 := Int.emod_nonneg a (b := 18446744073709551616) (by decide)
  have k2 := Int.emod_lt_of_pos a (b := 18446744073709551616) (by decide)
  have k3 := Int.emod_nonneg b (b := 18446744073709551616) (by decide)
  have k4 := Int.emod_lt_of_pos b (b := 18446744073709551616) (by decide)
  obtain ⟨a1, a2⟩ := ha
  obtain ⟨b1, b2⟩ := hb
  go_enter Try.func12, Try.ntmps12
  go_wp2_with fail
  rw [IntKind.wrap_u64, IntKind.wrap_u64]
  refine (mul64_any _ _ _ k1 (by omega) k3 (by omega)).mono ?_
  rintro e w' ⟨rfl, rfl⟩
  rw [(unhide H).1]
  generalize hq : a % 18446744073709551616 * (b % 18446744073709551616) / 18446744073709551616 = q
  have Hq := hide hq
  clear hq
  by_cases c1 : a < 0 <;> by_cases c2 : b < 0
  · go_wp2_with fail
    refine (narrow_any _ _ _ (by omega) (by omega)).mono ?_
    rintro e w' ⟨rfl, rfl⟩
    go_wp2
    go_ret2
    exact ⟨mul_ret a b _ _ (top2 _ _ _ _ (unhide Hp) (by have h := (unhide H).2; rw [unhide Hq] at h; rw [h]; simp [c1, c2])), rfl⟩
  · go_wp2_with fail
    refine (narrow_any _ _ _ (by omega) (by omega)).mono ?_
    rintro e w' ⟨rfl, rfl⟩
    go_wp2
    go_ret2
    exact ⟨mul_ret a b _ _ (top1 _ _ _ (unhide Hp) (by have h := (unhide H).2; rw [unhide Hq] at h; rw [h]; rw [if_pos c1, if_neg (by omega), if_neg (by omega)]; omega)), rfl⟩
  · go_wp2_with fail
    refine (narrow_any _ _ _ (by omega) (by omega)).mono ?_
    rintro e w' ⟨rfl, rfl⟩
    go_wp2
    go_ret2
    exact ⟨mul_ret a b _ _ (top1 _ _ _ (unhide Hp) (by have h := (unhide H).2; rw [unhide Hq] at h; rw [h]; rw [if_neg (by omega), if_pos c2, if_neg (by omega)]; omega)), rfl⟩
  · go_wp2_with fail
    refine (narrow_any _ _ _ (by omega) (by omega)).mono ?_
    rintro e w' ⟨rfl, rfl⟩
    go_wp2
    go_ret2
    exact ⟨mul_ret a b _ _ (top0 _ _ (unhide Hp) (by have h := (unhide H).2; rw [unhide Hq] at h; rw [h]; rw [if_neg (by omega), if_neg (by omega), if_neg (by omega)]; omega)), rfl⟩

end Go.Proofs.Ytofmkhjdnmgdlaa
