/- Contracts of package round's Half, product, Scale, Mean. -/
import Derived.Test.YtgfdiafeminofaaDiv
namespace Go.Proofs.Ytgfdiafeminofaa
open Go.RowKit
set_option linter.unusedVariables false

theorem divI_eq (x n : Int) (h : 1 ≤ n) : divI x n = (2 * x + n) / (2 * n) := by
  have h1 := Int.mul_ediv_add_emod x n
  have h2 := rem_bd x n h
  have e : 2 * x + n = (2 * (x % n) + n) + (x / n) * (2 * n) := by
    rw [Int.mul_left_comm, Int.mul_comm (x / n) n]; omega
  rw [e, Int.add_mul_ediv_right _ _ (by omega)]
  by_cases c : n - x % n ≤ x % n
  · rw [divI_up x n h c]
    have e2 : 2 * (x % n) + n = (2 * (x % n) - n) + 1 * (2 * n) := by omega
    have z : (2 * (x % n) - n) / (2 * n) = 0 := Int.ediv_eq_zero_of_lt (by omega) (by omega)
    rw [e2, Int.add_mul_ediv_right _ _ (by omega), z]; omega
  · rw [divI_down x n h c]
    have z : (2 * (x % n) + n) / (2 * n) = 0 := Int.ediv_eq_zero_of_lt (by omega) (by omega)
    rw [z]; omega
theorem divI_mono (x y n : Int) (h : x ≤ y) : divI x n ≤ divI y n := by
  by_cases c : n < 1
  · rw [divI_no x n c, divI_no y n c]; omega
  · rw [divI_eq x n (by omega), divI_eq y n (by omega)]
    exact Int.ediv_le_ediv (by omega) (by omega)
theorem divI_in (x n : Int) (hx : In64 x) : In64 (divI x n) := by
  by_cases c : n < 1
  · rw [divI_no x n c]; exact ⟨by decide, by decide⟩
  · have hq := quo_in x n (by omega) hx
    by_cases c2 : n - x % n ≤ x % n
    · have := up_bd x n (by omega) hx c2
      rw [divI_up x n (by omega) c2]
      obtain ⟨h1, h2⟩ := hq
      exact ⟨by omega, by omega⟩
    · rw [divI_down x n (by omega) c2]; exact hq

def two (n : Int) : Int := 2 ^ n.toNat
theorem two_pos (n : Int) : 1 ≤ two n := by unfold two; have := Int.pow_pos (n := 2) (m := n.toNat) (by decide); omega
theorem two_le (n : Int) (k : Nat) (h : n ≤ k) : two n ≤ 2 ^ k := by unfold two; exact two_pow_le _ _ (by omega)
theorem two_in (n : Int) (h : n ≤ 62) : In64 (two n) := by
  have h1 := two_pos n
  have h2 := two_le n 62 h
  have h3 : (2 : Int) ^ 62 = 4611686018427387904 := by decide
  exact ⟨by omega, by omega⟩
theorem two_succ (n : Int) (h : 0 ≤ n) : two (n + 1) = 2 * two n := by
  unfold two; rw [show (n + 1).toNat = n.toNat + 1 by omega, Int.pow_succ]; omega
def halfI (x n : Int) : Int := if 0 ≤ n ∧ n ≤ 62 then divI x (two n) else 0
theorem halfI_yes (x n : Int) (h1 : 0 ≤ n) (h2 : n ≤ 62) : halfI x n = divI x (two n) := by unfold halfI; rw [if_pos ⟨h1, h2⟩]
theorem halfI_no (x n : Int) (h : n < 0 ∨ 62 < n) : halfI x n = 0 := by unfold halfI; rw [if_neg (by omega)]
theorem halfI_in (x n : Int) (hx : In64 x) : In64 (halfI x n) := by
  unfold halfI; split
  · exact divI_in _ _ hx
  · exact ⟨by decide, by decide⟩

set_option maxHeartbeats 1000000 in
theorem half_any (x n : Int) (w : World) (hx : In64 x) :
    Calls Try.prog 16 #[.int .i64 x, .int .i64 n] w fun e w' => e = .returned (.int .i64 (halfI x n)) ∧ Below w.heap.size w w' := by
  by_cases c1 : n < 0
  · have HV := hide (halfI_no x n (.inl c1))
    go_enter Try.func16, Try.ntmps16
    go_wp2
    go_ret
    exact ⟨ret_int (unhide HV).symm, Below.refl _ _⟩
  by_cases c2 : 62 < n
  · have HV := hide (halfI_no x n (.inr c2))
    go_enter Try.func16, Try.ntmps16
    go_wp2
    go_ret
    exact ⟨ret_int (unhide HV).symm, Below.refl _ _⟩
  · have HV := hide (halfI_yes x n (by omega) (by omega))
    have ht := two_in n (by omega)
    have e1 : wrap64 (2 ^ n.toNat) = two n := w64_in ht
    go_enter Try.func16, Try.ntmps16
    go_wp2_with fail
    refine (div_any x (two n) _ hx ht).mono ?_
    rintro e w' ⟨rfl, hb⟩
    go_wp2
    go_ret
    exact ⟨ret_int (unhide HV).symm, hb⟩

def prodI (x m : Int) : Int := if ok64 (x * m) = true then x * m else if x < 0 then -9223372036854775808 else 9223372036854775807
theorem prodI_in (x m : Int) : In64 (prodI x m) := by
  unfold prodI; split
  · rename_i h; unfold ok64 at h; have h2 := of_decide_eq_true h; exact h2
  · split
    · exact ⟨by decide, by decide⟩
    · exact ⟨by decide, by decide⟩
set_option maxHeartbeats 1000000 in
theorem product_any (x m : Int) (w : World) (hx : In64 x) (hm : In64 m) :
    Calls Try.prog 23 #[.int .i64 x, .int .i64 m] w fun e w' => e = .returned (.int .i64 (prodI x m)) ∧ w' = w := by
  by_cases c : ok64 (x * m) = true
  · have HV := hide (show prodI x m = num64 (x * m) by unfold prodI; rw [if_pos c, num_of_ok _ c])
    go_enter Try.func23, Try.ntmps23
    go_wp2_with fail
    refine (mul_any x m _ hx hm).mono ?_
    rintro e w' ⟨rfl, rfl⟩
    rw [c]
    go_wp2
    go_ret
    exact ⟨ret_int (unhide HV).symm, rfl⟩
  · have c' : ok64 (x * m) = false := by simpa using c
    by_cases c2 : x < 0
    · have HV := hide (show prodI x m = -9223372036854775808 by unfold prodI; rw [if_neg c, if_pos c2])
      clear c
      go_enter Try.func23, Try.ntmps23
      go_wp2_with fail
      refine (mul_any x m _ hx hm).mono ?_
      rintro e w' ⟨rfl, rfl⟩
      rw [c']
      go_wp2
      go_ret
      exact ⟨ret_int (unhide HV).symm, rfl⟩
    · have HV := hide (show prodI x m = 9223372036854775807 by unfold prodI; rw [if_neg c, if_neg c2])
      clear c
      go_enter Try.func23, Try.ntmps23
      go_wp2_with fail
      refine (mul_any x m _ hx hm).mono ?_
      rintro e w' ⟨rfl, rfl⟩
      rw [c']
      go_wp2
      go_ret
      exact ⟨ret_int (unhide HV).symm, rfl⟩

/-- Scale, as the document has it: the exact product. -/
def scaleI (x m s : Int) : Int := if 0 ≤ m ∧ m ≤ 32767 ∧ 0 ≤ s ∧ s ≤ 30 then clampI (divI (x * m) (two s)) (-2147483648) 2147483647 else 0
theorem scaleI_no (x m s : Int) (h : m < 0 ∨ 32767 < m ∨ s < 0 ∨ 30 < s) : scaleI x m s = 0 := by unfold scaleI; rw [if_neg (by omega)]
theorem scaleI_yes (x m s : Int) (h1 : 0 ≤ m) (h2 : m ≤ 32767) (h3 : 0 ≤ s) (h4 : s ≤ 30) : scaleI x m s = clampI (divI (x * m) (two s)) (-2147483648) 2147483647 := by unfold scaleI; rw [if_pos ⟨h1, h2, h3, h4⟩]
theorem sat32 (x : Int) : sat0 x 32 = clampI x (-2147483648) 2147483647 := by
  unfold sat0; rw [if_pos (by decide)]; rfl
theorem top_s (s : Int) (h3 : 0 ≤ s) (h4 : s ≤ 30) : 2147483647 < divI 9223372036854775807 (two s) := by
  have h1 := two_pos s
  have h2 := two_le s 30 h4
  have h5 : (2 : Int) ^ 30 = 1073741824 := by decide
  rw [divI_eq _ _ h1]
  have := (Int.le_ediv_iff_mul_le (a := 2147483648) (b := 2 * 9223372036854775807 + two s) (c := 2 * two s) (by omega)).2 (by omega)
  omega
theorem bot_s (s : Int) (h3 : 0 ≤ s) (h4 : s ≤ 30) : divI (-9223372036854775808) (two s) < -2147483648 := by
  have h1 := two_pos s
  have h2 := two_le s 30 h4
  have h5 : (2 : Int) ^ 30 = 1073741824 := by decide
  rw [divI_eq _ _ h1, Int.ediv_lt_iff_lt_mul (by omega)]
  omega
theorem scale_eq (x m s : Int) (h1 : 0 ≤ m) (h2 : m ≤ 32767) (h3 : 0 ≤ s) (h4 : s ≤ 30) : sat0 (halfI (prodI x m) s) 32 = scaleI x m s := by
  rw [scaleI_yes x m s h1 h2 h3 h4, halfI_yes _ _ h3 (by omega), sat32]
  by_cases c : ok64 (x * m) = true
  · unfold prodI; rw [if_pos c]
  · have hn : ¬ (-9223372036854775808 ≤ x * m ∧ x * m ≤ 9223372036854775807) := fun h => c (decide_eq_true h)
    by_cases c2 : x < 0
    · have h5 := Int.mul_nonpos_of_nonpos_of_nonneg (a := x) (b := m) (by omega) h1
      have h6 := divI_mono (x * m) (-9223372036854775808) (two s) (by omega)
      have h7 := bot_s s h3 h4
      unfold prodI; rw [if_neg c, if_pos c2]
      unfold clampI; rw [if_pos (by omega), if_pos (by omega)]
    · have h5 := Int.mul_nonneg (a := x) (b := m) (by omega) h1
      have h6 := divI_mono 9223372036854775807 (x * m) (two s) (by omega)
      have h7 := top_s s h3 h4
      unfold prodI; rw [if_neg c, if_neg c2]
      unfold clampI; rw [if_neg (by omega), if_pos (by omega), if_neg (by omega), if_pos (by omega)]

set_option maxHeartbeats 1000000 in
theorem scale_any (x m s : Int) (w : World) (hx : In64 x) :
    Calls Try.prog 10 #[.int .i64 x, .int .i64 m, .int .i64 s] w fun e w' => e = .returned (.int .i64 (scaleI x m s)) ∧ Below w.heap.size w w' := by
  by_cases c : m < 0 ∨ 32767 < m ∨ s < 0 ∨ 30 < s
  · have HV := hide (scaleI_no x m s c)
    by_cases c1 : m < 0
    · go_enter Try.func10, Try.ntmps10
      go_wp2
      go_ret
      exact ⟨ret_int (unhide HV).symm, Below.refl _ _⟩
    by_cases c2 : 32767 < m
    · go_enter Try.func10, Try.ntmps10
      go_wp2
      go_ret
      exact ⟨ret_int (unhide HV).symm, Below.refl _ _⟩
    by_cases c3 : s < 0
    · go_enter Try.func10, Try.ntmps10
      go_wp2
      go_ret
      exact ⟨ret_int (unhide HV).symm, Below.refl _ _⟩
    · have c4 : 30 < s := by omega
      go_enter Try.func10, Try.ntmps10
      go_wp2
      go_ret
      exact ⟨ret_int (unhide HV).symm, Below.refl _ _⟩
  · have HV := hide (scale_eq x m s (by omega) (by omega) (by omega) (by omega))
    have c1 : ¬ m < 0 := by omega
    have c2 : ¬ 32767 < m := by omega
    have c3 : ¬ s < 0 := by omega
    have c4 : ¬ 30 < s := by omega
    clear c
    go_enter Try.func10, Try.ntmps10
    go_wp2_with fail
    refine (product_any x m _ hx ⟨by omega, by omega⟩).mono ?_
    rintro e w1 ⟨rfl, rfl⟩
    go_wp2_with fail
    refine (half_any _ s _ (prodI_in x m)).mono ?_
    rintro e w2 ⟨rfl, hb⟩
    go_wp2_with fail
    refine (sat_any _ _ _).mono ?_
    rintro e w3 ⟨rfl, rfl⟩
    go_wp2
    go_ret
    exact ⟨ret_int (unhide HV), hb⟩

def meanI (xs : List Int) : Int := if ok64 xs.sum = true then divI xs.sum xs.length else 0
set_option maxHeartbeats 1000000 in
theorem mean_any (a : Option Addr) (cap : Nat) (xs : List Int) (n : Nat) (hl' : xs.length = n) (w : World) (hl : Lies w a xs) (hs : Small xs) (hn : n ≤ 1000000) :
    Calls Try.prog 12 #[.slice a n cap] w fun e w' => e = .returned (.int .i64 (meanI xs)) ∧ Below w.heap.size w w' := by
  by_cases c : ok64 xs.sum = true
  · have HV := hide (show meanI xs = divI (num64 xs.sum) n by unfold meanI; rw [if_pos c, num_of_ok _ c, hl'])
    have hin := num64_in xs.sum
    go_enter Try.func12, Try.ntmps12
    go_wp2_with fail
    refine (sum_len a cap xs n hl' _ hl hs hn).mono ?_
    rintro e w1 ⟨rfl, hb1⟩
    rw [c]
    go_wp2_with fail
    refine (div_any _ _ _ hin ⟨by omega, by omega⟩).mono ?_
    rintro e w2 ⟨rfl, hb2⟩
    go_wp2
    go_ret
    exact ⟨ret_int (unhide HV).symm, hb1.trans (hb2.mono hb1.size)⟩
  · have c' : ok64 xs.sum = false := by simpa using c
    have HV := hide (show meanI xs = 0 by unfold meanI; rw [if_neg c])
    clear c
    go_enter Try.func12, Try.ntmps12
    go_wp2_with fail
    refine (sum_len a cap xs n hl' _ hl hs hn).mono ?_
    rintro e w1 ⟨rfl, hb1⟩
    rw [c']
    go_wp2
    go_ret
    exact ⟨ret_int (unhide HV).symm, hb1⟩
end Go.Proofs.Ytgfdiafeminofaa
