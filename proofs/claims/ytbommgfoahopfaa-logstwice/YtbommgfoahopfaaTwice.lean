/- The walk of LogsTwice. -/
import Derived.Test.YtbommgfoahopfaaWake
namespace Go.Proofs.Ytbommgfoahopfaa
open Go.RowKit
set_option linter.unusedVariables false

theorem logI_bd (x : Int) (hx : U64 x) : 0 ≤ logI x ∧ logI x < 16384 := by
  unfold logI
  by_cases h : x.toNat = 0
  · rw [h]; exact ⟨by decide, by decide⟩
  · have h1 := logN_bd x.toNat h
    have h2 := bl_le x.toNat 64 (by have := hx.2; omega)
    omega
theorem logI_twice (x : Int) (h : 0 < x) : logI (2 * x) = logI x + 256 := by
  unfold logI
  rw [show (2 * x).toNat = 2 * x.toNat by omega, logN_twice x.toNat (by omega)]
  omega
theorem logI_square (y : Int) (h0 : 0 < y) (h1 : y ≤ 4294967295) : logI (y * y) = 2 * logI y ∨ logI (y * y) = 2 * logI y + 1 := by
  obtain ⟨n, rfl⟩ : ∃ n : Nat, y = n := ⟨y.toNat, by omega⟩
  have h := logN_square n (by omega) (by omega)
  unfold logI
  rw [← Int.natCast_mul, Int.toNat_natCast, Int.toNat_natCast]
  omega
theorem logI_pow (k : Nat) : logI (2 ^ k) = 256 * (k : Int) := by
  unfold logI
  rw [show ((2 : Int) ^ k).toNat = 2 ^ k by rw [show (2 : Int) ^ k = ((2 ^ k : Nat) : Int) by simp, Int.toNat_natCast], logN_pow]
  omega
theorem pow_u (k : Nat) (h : k ≤ 63) : IntKind.u64.wrap (2 ^ k) = 2 ^ k ∧ U64 (2 ^ k) := by
  have h2 := Nat.pow_le_pow_right (n := 2) (by decide) h
  have e : (2 : Int) ^ k = ((2 ^ k : Nat) : Int) := by simp
  rw [IntKind.wrap_u64, e]
  generalize 2 ^ k = q at *
  exact ⟨by omega, by omega, by omega⟩

set_option maxRecDepth 100000 in
set_option maxHeartbeats 4000000 in
theorem twice_walk (x y p : Int) (w : World) (hx : U64 x) (hy0 : 0 ≤ y) (hy1 : y ≤ 4294967295) :
    Calls Try.prog 5 #[.int .u64 x, .int .u32 y, .int .i64 p] w fun e w' => e = .returned (.bool true) ∧ Below w.heap.size w w' := by
  obtain ⟨hx0, hx1⟩ := hx
  obtain ⟨k, hk, hk63⟩ : ∃ k : Nat, bits .and .i64 p 63 = (k : Int) ∧ k ≤ 63 := ⟨(p % 64).toNat, by rw [i64_and63]; omega, by omega⟩
  have hk' : (k : Int) ≤ 63 := by omega
  have HP := hide (pow_u k hk63)
  have HQ := hide (logI_pow k)
  obtain ⟨m0, m1⟩ := logI_bd 1 ⟨by decide, by decide⟩
  by_cases c1 : x / 2 = 0
  · have HT := hide (show logI 2 = logI 1 + 256 from logI_twice 1 (by decide))
    by_cases c2 : y = 0
    · subst c2
      have HSQ := hide (show logI 1 = 0 ∨ logI 1 = 0 from .inl log1)
      go_enter Try.func5, Try.ntmps5
      go_wp2_with fail
      refine (awake_any _).mono ?_
      rintro e w1 ⟨rfl, hb1⟩
      go_wp2_with fail
      refine (log_any _ _ ⟨by omega, by omega⟩).mono ?_
      rintro e w2 ⟨rfl, rfl⟩
      go_wp2_with fail
      refine (log_any _ _ ⟨by omega, by omega⟩).mono ?_
      rintro e w3 ⟨rfl, rfl⟩
      rcases unhide HSQ with e | e
      all_goals
        rw [e]
        go_wp2_with fail
        refine (log_any _ _ ⟨by omega, by omega⟩).mono ?_
        rintro e w4 ⟨rfl, rfl⟩
        rw [unhide HT]
        go_wp2_with fail
        refine (log_any _ _ ⟨by omega, by omega⟩).mono ?_
        rintro e w5 ⟨rfl, rfl⟩
        go_wp2_with fail
        rw [(unhide HP).1]
        refine (log_any _ _ (unhide HP).2).mono ?_
        rintro e w6 ⟨rfl, rfl⟩
        rw [unhide HQ]
        go_wp2
        go_ret
        exact ⟨rfl, hb1⟩
    · have r0 : 0 < y := by omega
      have s0 : 0 < y * y := Int.mul_pos r0 r0
      have s1 : y * y ≤ 4294967295 * 4294967295 := Int.mul_le_mul hy1 hy1 hy0 (by decide)
      obtain ⟨l0, l1⟩ := logI_bd y ⟨by omega, by omega⟩
      have HSQ := hide (logI_square y r0 hy1)
      go_enter Try.func5, Try.ntmps5
      go_wp2_with fail
      refine (awake_any _).mono ?_
      rintro e w1 ⟨rfl, hb1⟩
      go_wp2_with fail
      refine (log_any _ _ ⟨by omega, by omega⟩).mono ?_
      rintro e w2 ⟨rfl, rfl⟩
      go_wp2_with fail
      refine (log_any _ _ ⟨by omega, by omega⟩).mono ?_
      rintro e w3 ⟨rfl, rfl⟩
      rcases unhide HSQ with e | e
      all_goals
        rw [e]
        go_wp2_with fail
        refine (log_any _ _ ⟨by omega, by omega⟩).mono ?_
        rintro e w4 ⟨rfl, rfl⟩
        rw [unhide HT]
        go_wp2_with fail
        refine (log_any _ _ ⟨by omega, by omega⟩).mono ?_
        rintro e w5 ⟨rfl, rfl⟩
        go_wp2_with fail
        rw [(unhide HP).1]
        refine (log_any _ _ (unhide HP).2).mono ?_
        rintro e w6 ⟨rfl, rfl⟩
        rw [unhide HQ]
        go_wp2
        go_ret
        exact ⟨rfl, hb1⟩
  · have q0 : 0 < x / 2 := by omega
    have q1 : x / 2 ≤ 9223372036854775807 := by omega
    obtain ⟨l2, l3⟩ := logI_bd (x / 2) ⟨by omega, by omega⟩
    have HT := hide (logI_twice (x / 2) q0)
    by_cases c2 : y = 0
    · subst c2
      have HSQ := hide (show logI 1 = 0 ∨ logI 1 = 0 from .inl log1)
      go_enter Try.func5, Try.ntmps5
      go_wp2_with fail
      refine (awake_any _).mono ?_
      rintro e w1 ⟨rfl, hb1⟩
      go_wp2_with fail
      refine (log_any _ _ ⟨by omega, by omega⟩).mono ?_
      rintro e w2 ⟨rfl, rfl⟩
      go_wp2_with fail
      refine (log_any _ _ ⟨by omega, by omega⟩).mono ?_
      rintro e w3 ⟨rfl, rfl⟩
      rcases unhide HSQ with e | e
      all_goals
        rw [e]
        go_wp2_with fail
        refine (log_any _ _ ⟨by omega, by omega⟩).mono ?_
        rintro e w4 ⟨rfl, rfl⟩
        rw [unhide HT]
        go_wp2_with fail
        refine (log_any _ _ ⟨by omega, by omega⟩).mono ?_
        rintro e w5 ⟨rfl, rfl⟩
        go_wp2_with fail
        rw [(unhide HP).1]
        refine (log_any _ _ (unhide HP).2).mono ?_
        rintro e w6 ⟨rfl, rfl⟩
        rw [unhide HQ]
        go_wp2
        go_ret
        exact ⟨rfl, hb1⟩
    · have r0 : 0 < y := by omega
      have s0 : 0 < y * y := Int.mul_pos r0 r0
      have s1 : y * y ≤ 4294967295 * 4294967295 := Int.mul_le_mul hy1 hy1 hy0 (by decide)
      obtain ⟨l0, l1⟩ := logI_bd y ⟨by omega, by omega⟩
      have HSQ := hide (logI_square y r0 hy1)
      go_enter Try.func5, Try.ntmps5
      go_wp2_with fail
      refine (awake_any _).mono ?_
      rintro e w1 ⟨rfl, hb1⟩
      go_wp2_with fail
      refine (log_any _ _ ⟨by omega, by omega⟩).mono ?_
      rintro e w2 ⟨rfl, rfl⟩
      go_wp2_with fail
      refine (log_any _ _ ⟨by omega, by omega⟩).mono ?_
      rintro e w3 ⟨rfl, rfl⟩
      rcases unhide HSQ with e | e
      all_goals
        rw [e]
        go_wp2_with fail
        refine (log_any _ _ ⟨by omega, by omega⟩).mono ?_
        rintro e w4 ⟨rfl, rfl⟩
        rw [unhide HT]
        go_wp2_with fail
        refine (log_any _ _ ⟨by omega, by omega⟩).mono ?_
        rintro e w5 ⟨rfl, rfl⟩
        go_wp2_with fail
        rw [(unhide HP).1]
        refine (log_any _ _ (unhide HP).2).mono ?_
        rintro e w6 ⟨rfl, rfl⟩
        rw [unhide HQ]
        go_wp2
        go_ret
        exact ⟨rfl, hb1⟩
end Go.Proofs.Ytbommgfoahopfaa
