/- Contracts of the document's answers for layer 2: they say what the plain integers say. -/
import Derived.Test.YtgfdiafeminofaaScale
namespace Go.Proofs.Ytgfdiafeminofaa
open Go.RowKit
set_option linter.unusedVariables false

set_option maxHeartbeats 1000000 in
theorem rquot_any (x n : Int) (w : World) (hx : In64 x) (hn1 : 1 ≤ n) (hn2 : n ≤ 9223372036854775807) :
    Calls Try.prog 19 #[.int .i64 x, .int .i64 n] w fun e w' => e = .returned (.int .i64 (x / n)) ∧ w' = w := by
  have n0 : (n == 0) = false := by simp; omega
  have n0' : ¬ n = 0 := by omega
  have hx' := hx
  obtain ⟨h1, h2⟩ := hx
  by_cases hr : x.tmod n < 0
  · have T := tq_neg x n hn1 hr
    have HV := hide (show x.tdiv n - 1 = x / n by omega)
    have hb := tq_bd x n hn1 hr hx'
    obtain ⟨hb1, hb2⟩ := hb
    clear T
    go_enter Try.func19, Try.ntmps19
    go_wp2
    go_ret
    exact ⟨ret_int (unhide HV), rfl⟩
  · have T := tq_pos x n hn1 hr
    have HV := hide T.1
    have hb := quo_in x n hn1 hx'
    rw [← T.1] at hb
    obtain ⟨hb1, hb2⟩ := hb
    clear T
    go_enter Try.func19, Try.ntmps19
    go_wp2
    go_ret
    exact ⟨ret_int (unhide HV), rfl⟩

set_option maxHeartbeats 1000000 in
theorem rrest_any (x n : Int) (w : World) (hx : In64 x) (hn1 : 1 ≤ n) (hn2 : n ≤ 9223372036854775807) :
    Calls Try.prog 20 #[.int .i64 x, .int .i64 n] w fun e w' => e = .returned (.int .i64 (x % n)) ∧ w' = w := by
  have HV := hide (show wrap64 (x - wrap64 (x / n * n)) = x % n by
    have h1 := Int.mul_ediv_add_emod x n
    have h2 := rem_bd x n hn1
    rw [Int.mul_comm] at h1
    obtain ⟨h3, h4⟩ := hx
    generalize x / n * n = z at *
    generalize x % n = r at *
    unfold wrap64
    omega)
  go_enter Try.func20, Try.ntmps20
  go_wp2_with fail
  refine (rquot_any x n _ hx hn1 hn2).mono ?_
  rintro e w1 ⟨rfl, rfl⟩
  go_wp2
  go_ret
  exact ⟨ret_int (unhide HV), rfl⟩

set_option maxHeartbeats 1000000 in
theorem rdiv_any (x n : Int) (w : World) (hx : In64 x) (hn2 : n ≤ 9223372036854775807) :
    Calls Try.prog 21 #[.int .i64 x, .int .i64 n] w fun e w' => e = .returned (.int .i64 (divI x n)) ∧ w' = w := by
  by_cases c : n < 1
  · have HV := hide (divI_no x n c)
    go_enter Try.func21, Try.ntmps21
    go_wp2
    go_ret
    exact ⟨ret_int (unhide HV).symm, rfl⟩
  · have hn1 : 1 ≤ n := by omega
    obtain ⟨hr1, hr2⟩ := rem_bd x n hn1
    obtain ⟨hq1, hq2⟩ := quo_in x n hn1 hx
    by_cases c2 : n - x % n ≤ x % n
    · have HV := hide (divI_up x n hn1 c2)
      have hu := up_bd x n hn1 hx c2
      go_enter Try.func21, Try.ntmps21
      go_wp2_with fail
      refine (rquot_any x n _ hx hn1 hn2).mono ?_
      rintro e w1 ⟨rfl, rfl⟩
      go_wp2_with fail
      refine (rrest_any x n _ hx hn1 hn2).mono ?_
      rintro e w1 ⟨rfl, rfl⟩
      generalize x % n = r at *
      generalize x / n = q at *
      go_wp2
      go_ret
      exact ⟨ret_int (unhide HV).symm, rfl⟩
    · have HV := hide (divI_down x n hn1 c2)
      go_enter Try.func21, Try.ntmps21
      go_wp2_with fail
      refine (rquot_any x n _ hx hn1 hn2).mono ?_
      rintro e w1 ⟨rfl, rfl⟩
      go_wp2_with fail
      refine (rrest_any x n _ hx hn1 hn2).mono ?_
      rintro e w1 ⟨rfl, rfl⟩
      generalize x % n = r at *
      generalize x / n = q at *
      go_wp2
      go_ret
      exact ⟨ret_int (unhide HV).symm, rfl⟩

set_option maxHeartbeats 1000000 in
theorem rpower_any (n : Int) (w : World) (h0 : 0 ≤ n) (h1 : n ≤ 62) :
    Calls Try.prog 30 #[.int .i64 n] w fun e w' => e = .returned (.int .i64 (two n)) ∧ w' = w := by
  go_enter Try.func30, Try.ntmps30
  go_wp2
  go_loop [3, 4] (fun l i => ∃ k : Int, 0 ≤ k ∧ k ≤ n ∧ i = .int .i64 k ∧ l = .int .i64 (two k)) (fun _ i => (n - intOf i).toNat)
  case atStart => exact ⟨0, by omega, h0, rfl, rfl⟩
  case round =>
    obtain ⟨k, hk1, hk2, rfl, rfl⟩ := hrel
    by_cases hlt : k < n
    · have hp := two_pos k
      have hq := two_in (k + 1) (by omega)
      have hs := two_succ k hk1
      rw [hs] at hq
      obtain ⟨hq1, hq2⟩ := hq
      have HS := hide (show two k * 2 = two (k + 1) by omega)
      clear hs
      go_wp2
      go_round
      case rel => exact ⟨k + 1, by omega, by omega, by go_num, by first | rw [unhide HS] | (rw [← unhide HS]; go_num)⟩
      case measure => simp [intOf]; omega
    · have e : k = n := by omega
      subst e
      go_wp2
      go_ret
      exact ⟨rfl, rfl⟩

set_option maxHeartbeats 1000000 in
theorem rhalf_any (x n : Int) (w : World) (hx : In64 x) :
    Calls Try.prog 18 #[.int .i64 x, .int .i64 n] w fun e w' => e = .returned (.int .i64 (halfI x n)) ∧ w' = w := by
  by_cases c1 : n < 0
  · have HV := hide (halfI_no x n (.inl c1))
    go_enter Try.func18, Try.ntmps18
    go_wp2
    go_ret
    exact ⟨ret_int (unhide HV).symm, rfl⟩
  by_cases c2 : 62 < n
  · have HV := hide (halfI_no x n (.inr c2))
    go_enter Try.func18, Try.ntmps18
    go_wp2
    go_ret
    exact ⟨ret_int (unhide HV).symm, rfl⟩
  · have HV := hide (halfI_yes x n (by omega) (by omega))
    have ht := two_in n (by omega)
    go_enter Try.func18, Try.ntmps18
    go_wp2_with fail
    refine (rpower_any n _ (by omega) (by omega)).mono ?_
    rintro e w' ⟨rfl, rfl⟩
    go_wp2_with fail
    refine (rdiv_any x (two n) _ hx ht.2).mono ?_
    rintro e w' ⟨rfl, rfl⟩
    go_wp2
    go_ret
    exact ⟨ret_int (unhide HV).symm, rfl⟩

theorem scale_in (x m s : Int) (h1 : 0 ≤ m) (h2 : m ≤ 32767) (h3 : 0 ≤ s) (h4 : s ≤ 30) (hok : ok64 (x * m) = true) : sat0 (halfI (num64 (x * m)) s) 32 = scaleI x m s := by
  rw [← scale_eq x m s h1 h2 h3 h4, num_of_ok _ hok]
  unfold prodI; rw [if_pos hok]
theorem scale_out (x m s : Int) (h1 : 0 ≤ m) (h2 : m ≤ 32767) (h3 : 0 ≤ s) (h4 : s ≤ 30) (hok : ok64 (x * m) = false) : scaleI x m s = if x < 0 then -2147483648 else 2147483647 := by
  rw [← scale_eq x m s h1 h2 h3 h4, halfI_yes _ _ h3 (by omega), sat32]
  have h5 := bot_s s h3 h4
  have h6 := top_s s h3 h4
  unfold prodI; rw [if_neg (by simp [hok])]
  split
  · unfold clampI; rw [if_pos h5]
  · unfold clampI; rw [if_neg (by omega), if_pos h6]

set_option maxHeartbeats 1000000 in
theorem rscale_any (x m s : Int) (w : World) (hx : In64 x) :
    Calls Try.prog 11 #[.int .i64 x, .int .i64 m, .int .i64 s] w fun e w' => e = .returned (.int .i64 (scaleI x m s)) ∧ Below w.heap.size w w' := by
  by_cases c : m < 0 ∨ 32767 < m ∨ s < 0 ∨ 30 < s
  · have HV := hide (scaleI_no x m s c)
    by_cases c1 : m < 0
    · go_enter Try.func11, Try.ntmps11
      go_wp2
      go_ret
      exact ⟨ret_int (unhide HV).symm, Below.refl _ _⟩
    by_cases c2 : 32767 < m
    · go_enter Try.func11, Try.ntmps11
      go_wp2
      go_ret
      exact ⟨ret_int (unhide HV).symm, Below.refl _ _⟩
    by_cases c3 : s < 0
    · go_enter Try.func11, Try.ntmps11
      go_wp2
      go_ret
      exact ⟨ret_int (unhide HV).symm, Below.refl _ _⟩
    · have c4 : 30 < s := by omega
      go_enter Try.func11, Try.ntmps11
      go_wp2
      go_ret
      exact ⟨ret_int (unhide HV).symm, Below.refl _ _⟩
  · have HI := hide (scale_in x m s (by omega) (by omega) (by omega) (by omega))
    have HO := hide (scale_out x m s (by omega) (by omega) (by omega) (by omega))
    have c1 : ¬ m < 0 := by omega
    have c2 : ¬ 32767 < m := by omega
    have c3 : ¬ s < 0 := by omega
    have c4 : ¬ 30 < s := by omega
    clear c
    go_enter Try.func11, Try.ntmps11
    go_wp2_with fail
    refine (rmul_any x m _ hx ⟨by omega, by omega⟩).mono ?_
    rintro e w1 ⟨rfl, hb1⟩
    have hni := num64_in (x * m)
    generalize hno : num64 (x * m) = P at *
    generalize hok : ok64 (x * m) = O at *
    clear hno hok
    have hb2 := hb1.alloc hb1.size (.cells #[.int .i64 P, .bool O] 39)
    cases O with
    | true =>
      have HV := hide ((unhide HI) rfl)
      clear HI HO
      go_wp2_with fail
      refine (rhalf_any _ _ _ hni).mono ?_
      rintro e w2 ⟨rfl, rfl⟩
      go_wp2_with fail
      refine (rsat_any _ _ _).mono ?_
      rintro e w2 ⟨rfl, rfl⟩
      go_wp2
      go_ret
      exact ⟨ret_int (unhide HV), hb2⟩
    | false =>
      have HV := hide ((unhide HO) rfl)
      clear HI HO
      by_cases c5 : x < 0
      · rw [if_pos c5] at HV
        go_wp2
        go_ret
        exact ⟨ret_int (unhide HV).symm, hb2⟩
      · rw [if_neg c5] at HV
        go_wp2
        go_ret
        exact ⟨ret_int (unhide HV).symm, hb2⟩

set_option maxHeartbeats 1000000 in
theorem rmean_any (a : Option Addr) (cap : Nat) (xs : List Int) (w : World) (hl : Lies w a xs) (hs : Small xs) (hn : xs.length ≤ 1000000) :
    Calls Try.prog 14 #[.slice a xs.length cap] w fun e w' => e = .returned (.int .i64 (meanI xs)) ∧ Below w.heap.size w w' := by
  go_enter Try.func14, Try.ntmps14
  go_wp2_with fail
  refine (rsum_any a cap xs _ hl hs hn).mono ?_
  rintro e w1 ⟨rfl, hb1⟩
  have hni := num64_in xs.sum
  have HV : Hid (meanI xs = if ok64 xs.sum = true then divI (num64 xs.sum) xs.length else 0) := by
    show meanI xs = _
    unfold meanI
    split
    · rename_i h; rw [num_of_ok _ h]
    · rfl
  generalize num64 xs.sum = P at *
  generalize ok64 xs.sum = O at *
  have hb2 := hb1.alloc hb1.size (.cells #[.int .i64 P, .bool O] 39)
  cases O with
  | true =>
    rw [if_pos rfl] at HV
    by_cases h0 : xs.length = 0
    · rw [h0] at HV
      have HV' := hide (show meanI xs = 0 by rw [unhide HV]; exact divI_no _ _ (by decide))
      clear HV
      generalize hnn : xs.length = n at *
      subst h0
      go_wp2
      go_ret
      exact ⟨ret_int (unhide HV').symm, hb2⟩
    · generalize hnn : xs.length = n at *
      have h0' : ((n : Int) == 0) = false := by simp; omega
      go_wp2_with fail
      refine (rdiv_any _ _ _ hni (by omega)).mono ?_
      rintro e w2 ⟨rfl, rfl⟩
      go_wp2
      go_ret
      exact ⟨ret_int (unhide HV).symm, hb2⟩
  | false =>
    rw [if_neg (by decide)] at HV
    generalize hnn : xs.length = n at *
    go_wp2
    go_ret
    exact ⟨ret_int (unhide HV).symm, hb2⟩
end Go.Proofs.Ytgfdiafeminofaa
