/- The walk of LogsRoot. -/
import Derived.Test.YtbommgfoahopfaaWake
namespace Go.Proofs.Ytbommgfoahopfaa
open Go.RowKit
set_option linter.unusedVariables false

theorem rootI_bd (x : Int) (hx : U64 x) : 0 ≤ rootI x ∧ rootI x ≤ 4294967295 ∧ 0 ≤ rootI x * rootI x ∧ rootI x * rootI x ≤ x ∧ x - rootI x * rootI x ≤ 2 * rootI x := by
  obtain ⟨n, rfl⟩ : ∃ n : Nat, x = n := ⟨x.toNat, by have := hx.1; omega⟩
  have h1 := rootN_lt n (by have := hx.2; omega)
  have h2 := (rootN_sq n).1
  have h3 := rootN_left n
  unfold rootI
  rw [Int.toNat_natCast, ← Int.natCast_mul]
  generalize rootN n * rootN n = q at *
  omega
theorem rootI_square (y : Int) (h0 : 0 ≤ y) : rootI (y * y) = y := by
  obtain ⟨n, rfl⟩ : ∃ n : Nat, y = n := ⟨y.toNat, by omega⟩
  unfold rootI
  rw [← Int.natCast_mul, Int.toNat_natCast, rootN_square]
theorem rootI_four (z : Int) (h0 : 0 ≤ z) : rootI (z * 4) = 2 * rootI z ∨ rootI (z * 4) = 2 * rootI z + 1 := by
  obtain ⟨n, rfl⟩ : ∃ n : Nat, z = n := ⟨z.toNat, by omega⟩
  have h := rootN_four n
  unfold rootI
  rw [show ((n : Int) * 4).toNat = n * 4 by omega, Int.toNat_natCast]
  omega

set_option maxRecDepth 100000 in
set_option maxHeartbeats 4000000 in
theorem root_walk (x y : Int) (w : World) (hx : U64 x) (hy0 : 0 ≤ y) (hy1 : y ≤ 4294967295) :
    Calls Try.prog 6 #[.int .u64 x, .int .u32 y] w fun e w' => e = .returned (.bool true) ∧ Below w.heap.size w w' := by
  have hx' := hx
  obtain ⟨hx0, hx1⟩ := hx
  obtain ⟨r0, r1, r2, r3, r4⟩ := rootI_bd x hx'
  obtain ⟨t0, t1, _, _, _⟩ := rootI_bd (x / 4) ⟨by omega, by omega⟩
  have s0 : 0 ≤ y * y := Int.mul_nonneg hy0 hy0
  have s1 : y * y ≤ 4294967295 * 4294967295 := Int.mul_le_mul hy1 hy1 hy0 (by decide)
  have HSQ := hide (rootI_square y hy0)
  have HF := hide (rootI_four (x / 4) (by omega))
  have HR := hide (show rootI x = rootI x from rfl)
  go_enter Try.func6, Try.ntmps6
  go_wp2_with fail
  refine (awake_any _).mono ?_
  rintro e w1 ⟨rfl, hb1⟩
  go_wp2_with fail
  refine (root_any _ _ hx').mono ?_
  rintro e w2 ⟨rfl, hb2⟩
  have hb12 := below_trans hb1 hb2
  clear hb1 hb2
  go_wp2_with fail
  refine (root_any _ _ ⟨by omega, by omega⟩).mono ?_
  rintro e w3 ⟨rfl, hb3⟩
  have hb13 := below_trans hb12 hb3
  clear hb12 hb3
  rcases unhide HF with e | e
  all_goals
    rw [e]
    go_wp2_with fail
    refine (root_any _ _ ⟨by omega, by omega⟩).mono ?_
    rintro e w4 ⟨rfl, hb4⟩
    have hb14 := below_trans hb13 hb4
    clear hb13 hb4
    go_wp2_with fail
    refine (root_any _ _ ⟨by omega, by omega⟩).mono ?_
    rintro e w5 ⟨rfl, hb5⟩
    rw [unhide HSQ]
    go_wp2
    go_ret
    exact ⟨rfl, below_trans hb14 hb5⟩
end Go.Proofs.Ytbommgfoahopfaa
