/- Heights and weights: the code's and the document's. -/
import Derived.Test.YtmogegacgmgkbaaBase
import Derived.Test.YtmogegacgmgkbaaProg
namespace Go.Proofs.Ytmogegacgmgkbaa
open Go.RowKit
set_option linter.unusedVariables false

set_option maxHeartbeats 1000000 in
theorem parts_quiet (x n : Int) (w : World) (hx : In64 x) (hn1 : 1 ≤ n) (hn2 : n ≤ 9223372036854775807) :
    Calls Try.prog 28 #[.int .i64 x, .int .i64 n] w fun e w' => e = .returned (.tuple #[.int .i64 (x / n), .int .i64 (x % n)]) ∧ ∃ d, w' = w.drewN d := by
  have n0 : (n == 0) = false := by simp; omega
  have n0' : ¬ n = 0 := by omega
  have hmr1 := Int.tmod_lt_of_pos x (b := n) (by omega)
  have hmr2 := Int.lt_tmod_of_pos x (b := n) (by omega)
  have Hq := hide (quo_in x n hn1 hx)
  obtain ⟨h1, h2⟩ := hx
  by_cases hr : x.tmod n < 0
  · have T := tq_neg x n hn1 hr
    have H1 := hide T.1
    have H2 := hide T.2
    have hb := (tq_bd x n hn1 hr ⟨h1, h2⟩).1
    have hb' := (tq_bd x n hn1 hr ⟨h1, h2⟩).2
    clear T
    have HV := hide (show x.tdiv n - 1 = x / n ∧ x.tmod n + n = x % n by rw [unhide H1, unhide H2]; omega)
    go_enter Try.func28, Try.ntmps28
    go_wp2
    go_region
    go_wp2
    go_ret2
    exact ⟨ret_ii ⟨(unhide HV).1, (unhide HV).2⟩, 1, rfl⟩
  · have T := tq_pos x n hn1 hr
    have hb := quo_in x n hn1 ⟨h1, h2⟩
    rw [← T.1] at hb
    obtain ⟨hb1, hb2⟩ := hb
    have HV := hide (show x.tdiv n = x / n ∧ x.tmod n = x % n from T)
    clear T
    go_enter Try.func28, Try.ntmps28
    go_wp2
    go_region
    go_wp2
    go_ret2
    exact ⟨ret_ii ⟨(unhide HV).1, (unhide HV).2⟩, 1, rfl⟩

theorem whole_quiet (x n : Int) (w : World) (hx : In64 x) (h1 : 1 ≤ n) (h2 : n ≤ 9223372036854775807) :
    Calls Try.prog 21 #[.int .i64 x, .int .i64 n] w fun e w' => e = .returned (.int .i64 (x / n)) ∧ ∃ d, w' = w.drewN d := by
  have HX := hide hx
  clear hx
  go_enter Try.func21, Try.ntmps21
  go_wp2_with fail
  refine (parts_quiet x n w (unhide HX) h1 h2).mono ?_
  rintro e w1 ⟨rfl, d, rfl⟩
  go_wp2_with fail
  go_ret
  exact ⟨rfl, d, rfl⟩
theorem whole_any (x n : Int) (w : World) (hx : In64 x) (h1 : 1 ≤ n) (h2 : n ≤ 9223372036854775807) :
    Calls Try.prog 21 #[.int .i64 x, .int .i64 n] w fun e w' => e = .returned (.int .i64 (x / n)) ∧ Below w.heap.size w w' := by
  refine (whole_quiet x n w hx h1 h2).mono ?_
  rintro e w1 ⟨rfl, d, rfl⟩
  exact ⟨rfl, below_drewN w d⟩

theorem high_any (b : Int) (w : World) (hb : In64 b) :
    Calls Try.prog 12 #[.int .i64 b] w fun e w' => e = .returned (.int .i64 (highI b)) ∧ w' = w := by
  obtain ⟨h1, h2⟩ := hb
  by_cases c : b < 0 ∨ 64 < b
  · have HV := hide (show highI b = 0 by unfold highI; rw [if_pos c])
    go_enter Try.func12, Try.ntmps12
    go_wp2_with fail
    all_goals first | (exfalso; omega) | skip
    all_goals (go_ret; refine ⟨?_, rfl⟩; rw [unhide HV]; rfl)
  · have HV := hide (show highI b = logI (64 + 8 * b) - 1536 by unfold highI; rw [if_neg c])
    have hbd := high_bd b
    rw [unhide HV] at hbd
    have HU := hide (show U64 (64 + 8 * b) from ⟨by omega, by omega⟩)
    go_enter Try.func12, Try.ntmps12
    go_wp2_with fail
    all_goals first | (exfalso; omega) | skip
    refine (log_any (64 + 8 * b) w (unhide HU)).mono ?_
    rintro e w1 ⟨rfl, rfl⟩
    go_wp2_with fail
    go_ret
    exact ⟨by rw [unhide HV]; rfl, rfl⟩
theorem rhigh_any (b : Int) (w : World) (hb : In64 b) :
    Calls Try.prog 13 #[.int .i64 b] w fun e w' => e = .returned (.int .i64 (highI b)) ∧ w' = w := by
  obtain ⟨h1, h2⟩ := hb
  by_cases c : b < 0 ∨ 64 < b
  · have HV := hide (show highI b = 0 by unfold highI; rw [if_pos c])
    go_enter Try.func13, Try.ntmps13
    go_wp2_with fail
    all_goals first | (exfalso; omega) | skip
    all_goals (go_ret; refine ⟨?_, rfl⟩; rw [unhide HV]; rfl)
  · have HV := hide (show highI b = logI (64 + 8 * b) - 1536 by unfold highI; rw [if_neg c])
    have hbd := high_bd b
    rw [unhide HV] at hbd
    have HU := hide (show U64 (64 + 8 * b) from ⟨by omega, by omega⟩)
    go_enter Try.func13, Try.ntmps13
    go_wp2_with fail
    all_goals first | (exfalso; omega) | skip
    refine (rlog_any (64 + 8 * b) w (unhide HU)).mono ?_
    rintro e w1 ⟨rfl, rfl⟩
    go_wp2_with fail
    go_ret
    exact ⟨by rw [unhide HV]; rfl, rfl⟩

/-- The least and the greatest of four. -/
theorem min4 (a b c d : Int) (ts : Array TypeId) (t : TypeId) : ∃ m, (m ≤ a ∧ m ≤ b ∧ m ≤ c ∧ m ≤ d ∧ (m = a ∨ m = b ∨ m = c ∨ m = d)) ∧ ∀ w, (Builtin.min_ ts t #[.int .i64 a, .int .i64 b, .int .i64 c, .int .i64 d]).run Try.prog w = .ok (.int .i64 m) w := by
  refine ⟨if d < (if c < (if b < a then b else a) then c else (if b < a then b else a)) then d else (if c < (if b < a then b else a) then c else (if b < a then b else a)), ?_, fun w => by simp [Builtin.min_, Builtin.min2]⟩
  repeat' split
  all_goals omega
theorem max4 (a b c d : Int) (ts : Array TypeId) (t : TypeId) : ∃ m, (a ≤ m ∧ b ≤ m ∧ c ≤ m ∧ d ≤ m ∧ (m = a ∨ m = b ∨ m = c ∨ m = d)) ∧ ∀ w, (Builtin.max_ ts t #[.int .i64 a, .int .i64 b, .int .i64 c, .int .i64 d]).run Try.prog w = .ok (.int .i64 m) w := by
  refine ⟨if (if (if a < b then b else a) < c then c else (if a < b then b else a)) < d then d else (if (if a < b then b else a) < c then c else (if a < b then b else a)), ?_, fun w => by simp [Builtin.max_, Builtin.max2]⟩
  repeat' split
  all_goals omega

theorem weight_quiet (b low mid top : Int) (w : World) (h0 : In64 b) (h1 : In64 low) (h2 : In64 mid) (h3 : In64 top) :
    Calls Try.prog 14 #[.int .i64 b, .int .i64 low, .int .i64 mid, .int .i64 top] w fun e w' => e = .returned (.int .i64 (weightI b low mid top)) ∧ ∃ d, w' = w.drewN d := by
  obtain ⟨m, ⟨hm1, hm2, hm3, hm4, hm5⟩, hmin⟩ := min4 b low mid top #[3, 3, 3, 3] 3
  obtain ⟨M, ⟨hM1, hM2, hM3, hM4, hM5⟩, hmax⟩ := max4 b low mid top #[3, 3, 3, 3] 3
  by_cases hn : near30 b ∧ near30 low ∧ near30 mid ∧ near30 top
  · by_cases c1 : low ≤ b ∧ b < mid
    · have HV := hide (show weightI b low mid top = 256 * (b - low) / (mid - low) by unfold weightI; rw [if_pos hn, if_pos c1])
      obtain ⟨n0, n1, n2, n3⟩ := hn
      unfold near30 at n0 n1 n2 n3
      have c3 := c1.1
      have c4 := c1.2
      have k1 : ¬ m < -1073741824 := by omega
      have k2 : ¬ 1073741824 < M := by omega
      go_enter Try.func14, Try.ntmps14
      go_wp2_with fail
      all_goals first | (exfalso; omega) | skip
      refine (whole_quiet (256 * (b - low)) (mid - low) w ⟨by omega, by omega⟩ (by omega) (by omega)).mono ?_
      rintro e w1 ⟨rfl, d, rfl⟩
      go_wp2_with fail
      go_ret
      exact ⟨by rw [unhide HV]; rfl, d, rfl⟩
    · by_cases c2 : mid ≤ b ∧ b < top
      · have HV := hide (show weightI b low mid top = 256 * (top - b) / (top - mid) by unfold weightI; rw [if_pos hn, if_neg c1, if_pos c2])
        obtain ⟨n0, n1, n2, n3⟩ := hn
        unfold near30 at n0 n1 n2 n3
        have c3 := c2.1
        have c4 := c2.2
        have k1 : ¬ m < -1073741824 := by omega
        have k2 : ¬ 1073741824 < M := by omega
        go_enter Try.func14, Try.ntmps14
        go_wp2_with fail
        all_goals first | (exfalso; omega) | skip
        all_goals refine (whole_quiet (256 * (top - b)) (top - mid) w ⟨by omega, by omega⟩ (by omega) (by omega)).mono ?_
        all_goals rintro e w1 ⟨rfl, d, rfl⟩
        all_goals go_wp2_with fail
        all_goals go_ret
        all_goals exact ⟨by rw [unhide HV]; rfl, d, rfl⟩
      · have HV := hide (show weightI b low mid top = 0 by unfold weightI; rw [if_pos hn, if_neg c1, if_neg c2])
        obtain ⟨n0, n1, n2, n3⟩ := hn
        unfold near30 at n0 n1 n2 n3
        have k1 : ¬ m < -1073741824 := by omega
        have k2 : ¬ 1073741824 < M := by omega
        go_enter Try.func14, Try.ntmps14
        go_wp2_with fail
        all_goals first | (exfalso; omega) | skip
        all_goals go_ret
        all_goals exact ⟨by rw [unhide HV]; rfl, 0, rfl⟩
  · have HV := hide (show weightI b low mid top = 0 by unfold weightI; rw [if_neg hn])
    unfold near30 at hn
    have k : m < -1073741824 ∨ 1073741824 < M := by omega
    clear hn
    go_enter Try.func14, Try.ntmps14
    go_wp2_with fail
    all_goals first | (exfalso; omega) | skip
    all_goals go_ret
    all_goals exact ⟨by rw [unhide HV]; rfl, 0, rfl⟩
theorem weight_any (b low mid top : Int) (w : World) (h0 : In64 b) (h1 : In64 low) (h2 : In64 mid) (h3 : In64 top) :
    Calls Try.prog 14 #[.int .i64 b, .int .i64 low, .int .i64 mid, .int .i64 top] w fun e w' => e = .returned (.int .i64 (weightI b low mid top)) ∧ Below w.heap.size w w' := by
  refine (weight_quiet b low mid top w h0 h1 h2 h3).mono ?_
  rintro e w1 ⟨rfl, d, rfl⟩
  exact ⟨rfl, below_drewN w d⟩

theorem near_any (x : Int) (w : World) (h : In64 x) :
    Calls Try.prog 22 #[.int .i64 x] w fun e w' => e = .returned (.bool (decide (near30 x))) ∧ w' = w := by
  obtain ⟨h1, h2⟩ := h
  by_cases c : near30 x
  · have HV := hide (show decide (near30 x) = true from decide_eq_true c)
    unfold near30 at c
    obtain ⟨c1, c2⟩ := c
    go_enter Try.func22, Try.ntmps22
    go_wp2_with fail
    all_goals first | (exfalso; omega) | skip
    go_ret
    skip
    exact ⟨by rw [unhide HV]; first | rfl | (simp; omega), rfl⟩
  · have HV := hide (show decide (near30 x) = false from decide_eq_false c)
    unfold near30 at c
    go_enter Try.func22, Try.ntmps22
    go_wp2_with fail
    all_goals first | (exfalso; omega) | skip
    all_goals go_ret
    skip
    all_goals exact ⟨by rw [unhide HV]; first | rfl | (simp; omega), rfl⟩

theorem rweight_near (b low mid top : Int) (w : World) (h0 : In64 b) (h1 : In64 low) (h2 : In64 mid) (h3 : In64 top) (hn : near30 b ∧ near30 low ∧ near30 mid ∧ near30 top) :
    Calls Try.prog 15 #[.int .i64 b, .int .i64 low, .int .i64 mid, .int .i64 top] w fun e w' => e = .returned (.int .i64 (weightI b low mid top)) ∧ w' = w := by
  have H0 := hide (near_any b w h0)
  have H1 := hide (near_any low w h1)
  have H2 := hide (near_any mid w h2)
  have H3 := hide (near_any top w h3)
  rw [decide_eq_true hn.1] at H0
  rw [decide_eq_true hn.2.1] at H1
  rw [decide_eq_true hn.2.2.1] at H2
  rw [decide_eq_true hn.2.2.2] at H3
  have hn' := hn
  obtain ⟨n0, n1, n2, n3⟩ := hn'
  unfold near30 at n0 n1 n2 n3
  by_cases c1 : low ≤ b ∧ b < mid
  · have HV := hide (show weightI b low mid top = 256 * (b - low) / (mid - low) by unfold weightI; rw [if_pos hn, if_pos c1])
    have c3 := c1.1
    have c4 := c1.2
    clear hn
    have d0 : (mid - low == 0) = false := by simp; omega
    have d0' : ¬ mid - low = 0 := by omega
    have t1 : (256 * (b - low)).tdiv (mid - low) = 256 * (b - low) / (mid - low) := Int.tdiv_eq_ediv_of_nonneg (by omega)
    have t2 := (part_bds (b - low) (mid - low) (by omega) (by omega) (by omega)).1
    have t3 := (part_bds (b - low) (mid - low) (by omega) (by omega) (by omega)).2.1
    go_enter Try.func15, Try.ntmps15
    go_wp2_with fail
    refine (unhide H0).mono ?_
    rintro e w1 ⟨rfl, rfl⟩
    go_wp2_with fail
    refine (unhide H1).mono ?_
    rintro e w1 ⟨rfl, rfl⟩
    go_wp2_with fail
    refine (unhide H2).mono ?_
    rintro e w1 ⟨rfl, rfl⟩
    go_wp2_with fail
    refine (unhide H3).mono ?_
    rintro e w1 ⟨rfl, rfl⟩
    go_wp2_with fail
    all_goals first | (exfalso; omega) | skip
    all_goals go_ret
    all_goals exact ⟨by rw [unhide HV]; rfl, rfl⟩
  · by_cases c2 : mid ≤ b ∧ b < top
    · have HV := hide (show weightI b low mid top = 256 * (top - b) / (top - mid) by unfold weightI; rw [if_pos hn, if_neg c1, if_pos c2])
      have c3 := c2.1
      have c4 := c2.2
      clear hn
      have d0 : (top - mid == 0) = false := by simp; omega
      have d0' : ¬ top - mid = 0 := by omega
      have t1 : (256 * (top - b)).tdiv (top - mid) = 256 * (top - b) / (top - mid) := Int.tdiv_eq_ediv_of_nonneg (by omega)
      have t2 := (part_bds (top - b) (top - mid) (by omega) (by omega) (by omega)).1
      have t3 := (part_bds (top - b) (top - mid) (by omega) (by omega) (by omega)).2.1
      go_enter Try.func15, Try.ntmps15
      go_wp2_with fail
      refine (unhide H0).mono ?_
      rintro e w1 ⟨rfl, rfl⟩
      go_wp2_with fail
      refine (unhide H1).mono ?_
      rintro e w1 ⟨rfl, rfl⟩
      go_wp2_with fail
      refine (unhide H2).mono ?_
      rintro e w1 ⟨rfl, rfl⟩
      go_wp2_with fail
      refine (unhide H3).mono ?_
      rintro e w1 ⟨rfl, rfl⟩
      go_wp2_with fail
      all_goals first | (exfalso; omega) | skip
      all_goals go_ret
      all_goals exact ⟨by rw [unhide HV]; rfl, rfl⟩
    · have HV := hide (show weightI b low mid top = 0 by unfold weightI; rw [if_pos hn, if_neg c1, if_neg c2])
      clear hn
      go_enter Try.func15, Try.ntmps15
      go_wp2_with fail
      refine (unhide H0).mono ?_
      rintro e w1 ⟨rfl, rfl⟩
      go_wp2_with fail
      refine (unhide H1).mono ?_
      rintro e w1 ⟨rfl, rfl⟩
      go_wp2_with fail
      refine (unhide H2).mono ?_
      rintro e w1 ⟨rfl, rfl⟩
      go_wp2_with fail
      refine (unhide H3).mono ?_
      rintro e w1 ⟨rfl, rfl⟩
      go_wp2_with fail
      all_goals first | (exfalso; omega) | skip
      all_goals go_ret
      all_goals exact ⟨by rw [unhide HV]; rfl, rfl⟩
theorem rweight_far (b low mid top : Int) (w : World) (h0 : In64 b) (h1 : In64 low) (h2 : In64 mid) (h3 : In64 top) (hn : ¬ (near30 b ∧ near30 low ∧ near30 mid ∧ near30 top)) :
    Calls Try.prog 15 #[.int .i64 b, .int .i64 low, .int .i64 mid, .int .i64 top] w fun e w' => e = .returned (.int .i64 (weightI b low mid top)) ∧ w' = w := by
  have H0 := hide (near_any b w h0)
  have H1 := hide (near_any low w h1)
  have H2 := hide (near_any mid w h2)
  have H3 := hide (near_any top w h3)
  have HV := hide (show weightI b low mid top = 0 by unfold weightI; rw [if_neg hn])
  have hf : ¬ (decide (near30 b) = true ∧ decide (near30 low) = true ∧ decide (near30 mid) = true ∧ decide (near30 top) = true) := by simpa using hn
  clear hn
  generalize decide (near30 b) = p0 at H0 hf
  generalize decide (near30 low) = p1 at H1 hf
  generalize decide (near30 mid) = p2 at H2 hf
  generalize decide (near30 top) = p3 at H3 hf
  cases p0 <;> cases p1 <;> cases p2 <;> cases p3
  all_goals first | (exact absurd ⟨rfl, rfl, rfl, rfl⟩ hf) | skip
  all_goals clear hf
  all_goals go_enter Try.func15, Try.ntmps15
  all_goals go_wp2_with fail
  all_goals refine (unhide H0).mono ?_
  all_goals rintro e w1 ⟨rfl, rfl⟩
  all_goals go_wp2_with fail
  all_goals first | (with_reducible refine (unhide H1).mono ?_); rintro e w1 ⟨rfl, rfl⟩; go_wp2_with fail | skip
  all_goals (with_reducible refine (unhide H2).mono ?_)
  all_goals rintro e w1 ⟨rfl, rfl⟩
  all_goals go_wp2_with fail
  all_goals first | (with_reducible refine (unhide H3).mono ?_); rintro e w1 ⟨rfl, rfl⟩; go_wp2_with fail | skip
  all_goals go_ret
  all_goals exact ⟨by rw [unhide HV]; rfl, rfl⟩
theorem rweight_any (b low mid top : Int) (w : World) (h0 : In64 b) (h1 : In64 low) (h2 : In64 mid) (h3 : In64 top) :
    Calls Try.prog 15 #[.int .i64 b, .int .i64 low, .int .i64 mid, .int .i64 top] w fun e w' => e = .returned (.int .i64 (weightI b low mid top)) ∧ w' = w := by
  by_cases hn : near30 b ∧ near30 low ∧ near30 mid ∧ near30 top
  · exact rweight_near b low mid top w h0 h1 h2 h3 hn
  · exact rweight_far b low mid top w h0 h1 h2 h3 hn

end Go.Proofs.Ytmogegacgmgkbaa
