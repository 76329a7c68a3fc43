/- The walk of LogsOrder. -/
import Derived.Test.YtbommgfoahopfaaWake
namespace Go.Proofs.Ytbommgfoahopfaa
open Go.RowKit
set_option linter.unusedVariables false

theorem order_facts (a b : Int) (ha : U64 a) (hb : U64 b) (h : a ≤ b) : blI a ≤ blI b ∧ logI a ≤ logI b ∧ rootI a ≤ rootI b ∧ 0 ≤ blI b ∧ blI b ≤ 64 ∧ 0 ≤ logI b ∧ logI b < 16384 := by
  have h0 := ha.1
  have h1 := bl_mono a.toNat b.toNat (by omega)
  have h2 := logN_mono a.toNat b.toNat (by omega)
  have h3 := rootN_mono a.toNat b.toNat (by omega)
  have h4 := blI_64 b hb
  have h5 : logN b.toNat < 16384 := by
    by_cases c : b.toNat = 0
    · rw [c]; decide
    · have := logN_bd b.toNat c
      have := bl_le b.toNat 64 (by have := hb.2; omega)
      omega
  unfold blI at h4
  unfold blI logI rootI
  omega
theorem order_pos (b : Int) (hb : U64 b) (h : 0 < b) : 1 ≤ blI b ∧ 256 * (blI b - 1) ≤ logI b ∧ logI b < 256 * blI b ∧ b / 2 ^ ((blI b).toNat - 1) = 1 := by
  obtain ⟨n, rfl⟩ : ∃ n : Nat, b = n := ⟨b.toNat, by omega⟩
  have h1 := bl_ge n (by omega)
  have h2 := bl_lt n
  have h3 := logN_bd n (by omega)
  unfold blI logI
  rw [Int.toNat_natCast, Int.toNat_natCast, show (2 : Int) ^ (bl n - 1) = ((2 ^ (bl n - 1) : Nat) : Int) by simp]
  have e : 2 ^ bl n = 2 * 2 ^ (bl n - 1) := by
    conv => lhs; rw [show bl n = bl n - 1 + 1 by omega]
    rw [Nat.pow_succ, Nat.mul_comm]
  refine ⟨by omega, by omega, by omega, ?_⟩
  rw [e] at h2
  generalize 2 ^ (bl n - 1) = q at *
  rw [← Int.natCast_ediv, show n / q = 1 from Nat.div_eq_of_lt_le (by omega) (by omega)]
  rfl

set_option maxRecDepth 100000 in
set_option maxHeartbeats 4000000 in
theorem order_walk (x y : Int) (w : World) (hx : U64 x) (hy : U64 y) :
    Calls Try.prog 4 #[.int .u64 x, .int .u64 y] w fun e w' => e = .returned (.bool true) ∧ Below w.heap.size w w' := by
  have hx0 := hx.1
  have hy0 := hy.1
  have hm : min x y ≤ max x y := by omega
  have ha : U64 (min x y) := by obtain ⟨_, h1⟩ := hx; exact ⟨by omega, by omega⟩
  have hb : U64 (max x y) := by obtain ⟨_, h1⟩ := hx; obtain ⟨_, h2⟩ := hy; exact ⟨by omega, by omega⟩
  go_enter Try.func4, Try.ntmps4
  go_wp2_with fail
  refine (awake_any _).mono ?_
  rintro e w1 ⟨rfl, hb1⟩
  go_wp2_with fail
  generalize min x y = a at *
  generalize max x y = b at *
  obtain ⟨f1, f2, f3, f4, f5, f6, f7⟩ := order_facts a b ha hb hm
  refine (bits_any _ _ ha).mono ?_
  rintro e w2 ⟨rfl, rfl⟩
  go_wp2_with fail
  refine (bits_any _ _ hb).mono ?_
  rintro e w3 ⟨rfl, rfl⟩
  go_wp2_with fail
  refine (log_any _ _ ha).mono ?_
  rintro e w4 ⟨rfl, rfl⟩
  go_wp2_with fail
  refine (log_any _ _ hb).mono ?_
  rintro e w5 ⟨rfl, rfl⟩
  go_wp2_with fail
  refine (root_any _ _ ha).mono ?_
  rintro e w6 ⟨rfl, hb6⟩
  have hb16 := below_trans hb1 hb6
  clear hb1 hb6
  go_wp2_with fail
  refine (root_any _ _ hb).mono ?_
  rintro e w7 ⟨rfl, hb7⟩
  have hb17 := below_trans hb16 hb7
  clear hb16 hb7
  go_wp2_with fail
  refine (bits_any _ _ hb).mono ?_
  rintro e w8 ⟨rfl, rfl⟩
  go_wp2_with fail
  refine (log_any _ _ hb).mono ?_
  rintro e w9 ⟨rfl, rfl⟩
  have hb0 := hb.1
  by_cases c : b = 0
  · subst c
    rw [blI_zero, show logI 0 = 0 from rfl]
    go_wp2
    go_ret
    exact ⟨rfl, hb17⟩
  · obtain ⟨p1, p2, p3, p4⟩ := order_pos b hb (by omega)
    have c' : 0 < b := by omega
    go_wp2
    go_ret
    exact ⟨rfl, hb17⟩
end Go.Proofs.Ytbommgfoahopfaa
