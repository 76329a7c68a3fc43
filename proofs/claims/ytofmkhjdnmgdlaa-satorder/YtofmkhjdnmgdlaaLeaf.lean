/- Contracts of the leaves of package sat and of the document's answers: each call returns what plain integers say; the world is unchanged. -/
import Derived.Test.YtofmkhjdnmgdlaaRows
import Derived.Test.YtofmkhjdnmgdlaaPlain
import Derived.WalkSpells
import Derived.WalkLawsBesides
namespace Go.Proofs.Ytofmkhjdnmgdlaa
open Go.RowKit
set_option linter.unusedVariables false

theorem ret_int {k : IntKind} {a b : Int} (h : a = b) : Ending.returned (.int k a) = .returned (.int k b) := by rw [h]
theorem ret_bool {a b : Bool} (h : a = b) : Ending.returned (.bool a) = .returned (.bool b) := by rw [h]

set_option maxHeartbeats 400000 in
theorem clamp_any (x l h : Int) (w : World) :
    Calls Try.prog 14 #[.int .i64 x, .int .i64 l, .int .i64 h] w fun e w' => e = .returned (.int .i64 (clampI x l h)) ∧ w' = w := by
  unfold clampI
  by_cases c1 : x < l
  · go_enter Try.func14, Try.ntmps14
    go_wp2
    go_ret
    exact ⟨by simp, rfl⟩
  · by_cases c2 : h < x
    · go_enter Try.func14, Try.ntmps14
      go_wp2
      go_ret
      exact ⟨by simp, rfl⟩
    · go_enter Try.func14, Try.ntmps14
      go_wp2
      go_ret
      exact ⟨by simp, rfl⟩

set_option maxHeartbeats 400000 in
theorem rclamp_any (x l h : Int) (w : World) :
    Calls Try.prog 15 #[.int .i64 x, .int .i64 l, .int .i64 h] w fun e w' => e = .returned (.int .i64 (clampI x l h)) ∧ w' = w := by
  unfold clampI
  by_cases c1 : x < l
  · go_enter Try.func15, Try.ntmps15
    go_wp2
    go_ret
    exact ⟨by simp, rfl⟩
  · by_cases c2 : h < x
    · go_enter Try.func15, Try.ntmps15
      go_wp2
      go_ret
      exact ⟨by simp, rfl⟩
    · go_enter Try.func15, Try.ntmps15
      go_wp2
      go_ret
      exact ⟨by simp, rfl⟩

set_option maxHeartbeats 400000 in
theorem ends_no (b : Int) (w : World) (hb : b < 1 ∨ 64 < b) :
    Calls Try.prog 28 #[.int .i64 b] w fun e w' => e = .returned (.tuple #[.int .i64 0, .int .i64 0, .bool false]) ∧ w' = w := by
  by_cases c1 : b < 1
  · go_enter Try.func28, Try.ntmps28
    go_wp2
    go_ret3
    exact ⟨rfl, rfl⟩
  · have c2 : 64 < b := by omega
    go_enter Try.func28, Try.ntmps28
    go_wp2
    go_ret3
    exact ⟨rfl, rfl⟩

theorem ends_val (b : Int) (h2 : b ≤ 64) : Ending.returned (.tuple #[.int .i64 (wrap64 (-2 ^ (b.toNat - 1))), .int .i64 (bits .xor .i64 (-1) (wrap64 (-2 ^ (b.toNat - 1)))), .bool true]) =
    Ending.returned (.tuple #[.int .i64 (-(pw b)), .int .i64 (pw b - 1), .bool true]) := by
  have e : (-2 ^ (b.toNat - 1) : Int) = -(pw b) := rfl
  have h3 := pw_pos b
  have h4 := pw_le b h2
  rw [e, w64_in ⟨by omega, by omega⟩, i64_not_any _ ⟨by omega, by omega⟩, show -1 - -(pw b) = pw b - 1 by omega]

set_option maxHeartbeats 400000 in
theorem ends_yes (b : Int) (w : World) (h1 : 1 ≤ b) (h2 : b ≤ 64) :
    Calls Try.prog 28 #[.int .i64 b] w fun e w' => e = .returned (.tuple #[.int .i64 (-(pw b)), .int .i64 (pw b - 1), .bool true]) ∧ w' = w := by
  go_enter Try.func28, Try.ntmps28
  go_wp2
  go_ret3
  exact ⟨ends_val b h2, rfl⟩

set_option maxHeartbeats 400000 in
theorem sat_any (x b : Int) (w : World) :
    Calls Try.prog 17 #[.int .i64 x, .int .i64 b] w fun e w' => e = .returned (.int .i64 (sat0 x b)) ∧ w' = w := by
  unfold sat0 satI
  by_cases hb : 1 ≤ b ∧ b ≤ 64
  · rw [if_pos hb]
    obtain ⟨h1, h2⟩ := hb
    go_enter Try.func17, Try.ntmps17
    go_wp2_with fail
    refine (ends_yes _ _ h1 h2).mono ?_
    rintro e w' ⟨rfl, rfl⟩
    go_wp2_with fail
    refine (clamp_any _ _ _ _).mono ?_
    rintro e w' ⟨rfl, rfl⟩
    go_wp2
    go_ret
    exact ⟨rfl, rfl⟩
  · rw [if_neg hb]
    go_enter Try.func17, Try.ntmps17
    go_wp2_with fail
    refine (ends_no _ _ (by omega)).mono ?_
    rintro e w' ⟨rfl, rfl⟩
    go_wp2
    go_ret
    exact ⟨rfl, rfl⟩

set_option maxHeartbeats 400000 in
theorem fits_any (x b : Int) (w : World) :
    Calls Try.prog 18 #[.int .i64 x, .int .i64 b] w fun e w' => e = .returned (.bool (fitsB x b)) ∧ w' = w := by
  by_cases hb : 1 ≤ b ∧ b ≤ 64
  · obtain ⟨h1, h2⟩ := hb
    have hv : fitsB x b = (decide (-(pw b) ≤ x) && decide (x ≤ pw b - 1)) := by
      unfold fitsB; simp [h1, h2]
    have Hv := hide hv
    clear hv
    by_cases c1 : -(pw b) ≤ x
    · go_enter Try.func18, Try.ntmps18
      go_wp2_with fail
      refine (ends_yes _ _ h1 h2).mono ?_
      rintro e w' ⟨rfl, rfl⟩
      go_wp2
      go_ret
      exact ⟨ret_bool (by rw [unhide Hv]; simp [c1]), rfl⟩
    · have c1' : decide (-(pw b) ≤ x) = false := by simpa using c1
      go_enter Try.func18, Try.ntmps18
      go_wp2_with fail
      refine (ends_yes _ _ h1 h2).mono ?_
      rintro e w' ⟨rfl, rfl⟩
      go_wp2
      go_ret
      exact ⟨ret_bool (by rw [unhide Hv, c1']; rfl), rfl⟩
  · have hv : fitsB x b = false := by unfold fitsB; simp; omega
    have Hv := hide hv
    clear hv
    go_enter Try.func18, Try.ntmps18
    go_wp2_with fail
    refine (ends_no _ _ (by omega)).mono ?_
    rintro e w' ⟨rfl, rfl⟩
    go_wp2
    go_ret
    exact ⟨ret_bool (by rw [unhide Hv]), rfl⟩

theorem plusI_lo (a b : Int) (h : a + b < -9223372036854775808) : plusI a b = -9223372036854775808 := by unfold plusI clampI; rw [if_pos h]
theorem plusI_hi (a b : Int) (h : 9223372036854775807 < a + b) : plusI a b = 9223372036854775807 := by unfold plusI clampI; rw [if_neg (by omega), if_pos h]
theorem plusI_in (a b : Int) (h : In64 (a + b)) : plusI a b = a + b := by obtain ⟨h1, h2⟩ := h; unfold plusI clampI; rw [if_neg (by omega), if_neg (by omega)]

set_option maxHeartbeats 400000 in
theorem plus_any (a b : Int) (w : World) (ha : In64 a) (hb : In64 b) :
    Calls Try.prog 30 #[.int .i64 a, .int .i64 b] w fun e w' => e = .returned (.int .i64 (plusI a b)) ∧ w' = w := by
  obtain ⟨ha1, ha2⟩ := ha
  obtain ⟨hb1, hb2⟩ := hb
  by_cases c0 : 0 < b
  · by_cases c1 : 9223372036854775807 - b < a
    · have Hv := hide (plusI_hi a b (by omega))
      go_enter Try.func30, Try.ntmps30
      go_wp2
      go_ret
      exact ⟨ret_int (unhide Hv).symm, rfl⟩
    · have Hv := hide (plusI_in a b ⟨by omega, by omega⟩)
      have c2 : ¬ b < 0 := by omega
      go_enter Try.func30, Try.ntmps30
      go_wp2
      go_ret
      exact ⟨ret_int (unhide Hv).symm, rfl⟩
  · by_cases c2 : b < 0
    · by_cases c1 : a < -9223372036854775808 - b
      · have Hv := hide (plusI_lo a b (by omega))
        go_enter Try.func30, Try.ntmps30
        go_wp2
        go_ret
        exact ⟨ret_int (unhide Hv).symm, rfl⟩
      · have Hv := hide (plusI_in a b ⟨by omega, by omega⟩)
        go_enter Try.func30, Try.ntmps30
        go_wp2
        go_ret
        exact ⟨ret_int (unhide Hv).symm, rfl⟩
    · have Hv := hide (plusI_in a b ⟨by omega, by omega⟩)
      go_enter Try.func30, Try.ntmps30
      go_wp2
      go_ret
      exact ⟨ret_int (unhide Hv).symm, rfl⟩

set_option maxHeartbeats 400000 in
theorem rplus_any (a b : Int) (w : World) (ha : In64 a) (hb : In64 b) :
    Calls Try.prog 33 #[.int .i64 a, .int .i64 b] w fun e w' => e = .returned (.int .i64 (plusI a b)) ∧ w' = w := by
  obtain ⟨ha1, ha2⟩ := ha
  obtain ⟨hb1, hb2⟩ := hb
  by_cases c0 : 0 < b
  · by_cases c1 : 9223372036854775807 - b < a
    · have Hv := hide (plusI_hi a b (by omega))
      go_enter Try.func33, Try.ntmps33
      go_wp2
      go_ret
      exact ⟨ret_int (unhide Hv).symm, rfl⟩
    · have Hv := hide (plusI_in a b ⟨by omega, by omega⟩)
      have c2 : ¬ b < 0 := by omega
      go_enter Try.func33, Try.ntmps33
      go_wp2
      go_ret
      exact ⟨ret_int (unhide Hv).symm, rfl⟩
  · by_cases c2 : b < 0
    · by_cases c1 : a < -9223372036854775808 - b
      · have Hv := hide (plusI_lo a b (by omega))
        go_enter Try.func33, Try.ntmps33
        go_wp2
        go_ret
        exact ⟨ret_int (unhide Hv).symm, rfl⟩
      · have Hv := hide (plusI_in a b ⟨by omega, by omega⟩)
        go_enter Try.func33, Try.ntmps33
        go_wp2
        go_ret
        exact ⟨ret_int (unhide Hv).symm, rfl⟩
    · have Hv := hide (plusI_in a b ⟨by omega, by omega⟩)
      go_enter Try.func33, Try.ntmps33
      go_wp2
      go_ret
      exact ⟨ret_int (unhide Hv).symm, rfl⟩

set_option maxHeartbeats 400000 in
theorem may_any (b : Int) (w : World) :
    Calls Try.prog 31 #[.int .i64 b] w fun e w' => e = .returned (.bool (decide (1 ≤ b ∧ b ≤ 64))) ∧ w' = w := by
  by_cases c1 : 1 ≤ b
  · go_enter Try.func31, Try.ntmps31
    go_wp2
    go_ret
    exact ⟨ret_bool (by simp [c1]), rfl⟩
  · have c1' : decide (1 ≤ b) = false := by simpa using c1
    go_enter Try.func31, Try.ntmps31
    go_wp2
    go_ret
    exact ⟨ret_bool (by simp), rfl⟩


set_option maxHeartbeats 400000 in
theorem low_any (b : Int) (w : World) (h1 : 1 ≤ b) (h2 : b ≤ 64) :
    Calls Try.prog 32 #[.int .i64 b] w fun e w' => e = .returned (.int .i64 (-(pw b))) ∧ w' = w := by
  go_enter Try.func32, Try.ntmps32
  go_wp2
  go_loop [3, 4] (fun l i => ∃ k : Int, 1 ≤ k ∧ k ≤ b ∧ i = .int .i64 k ∧ l = .int .i64 (-(pw k))) (fun _ i => (b - intOf i).toNat)
  case atStart => exact ⟨1, by omega, h1, rfl, by rw [pw_one]⟩
  case round =>
    obtain ⟨k, hk1, hk2, rfl, rfl⟩ := hrel
    by_cases hlt : k < b
    · have hp := pw_pos k
      have hq := pw_le (k + 1) (by omega)
      have hs := pw_succ k hk1
      have hb0 : -9223372036854775808 ≤ -(2 * pw k) := by omega
      have HS := hide (show -(pw k) * 2 = -(pw (k + 1)) by omega)
      clear hs hq
      go_wp2
      go_round
      case rel => exact ⟨k + 1, by omega, by omega, by go_num, by first | rw [unhide HS] | (rw [← unhide HS]; go_num)⟩
      case measure => simp [intOf]; omega
    · have e : k = b := by omega
      subst e
      go_wp2
      go_ret
      exact ⟨rfl, rfl⟩

theorem narrow_no (t r : Int) (h0 : 0 ≤ r) (h1 : r ≤ 18446744073709551615) (h : (t != wrap64 r / 9223372036854775808) = true) :
    (0 : Int) = num64 (t * 18446744073709551616 + r) ∧ false = ok64 (t * 18446744073709551616 + r) := by
  have h' : t ≠ wrap64 r / 9223372036854775808 := by simpa using h
  have hn : ¬ (-9223372036854775808 ≤ t * 18446744073709551616 + r ∧ t * 18446744073709551616 + r ≤ 9223372036854775807) := by
    unfold wrap64 at h'; omega
  unfold num64 ok64
  exact ⟨by rw [if_neg hn], by simp only [decide_eq_false hn]⟩
theorem narrow_yes (t r : Int) (h0 : 0 ≤ r) (h1 : r ≤ 18446744073709551615) (h : (t != wrap64 r / 9223372036854775808) = false) :
    wrap64 r = num64 (t * 18446744073709551616 + r) ∧ true = ok64 (t * 18446744073709551616 + r) := by
  have h' : t = wrap64 r / 9223372036854775808 := by simpa using h
  have hn : -9223372036854775808 ≤ t * 18446744073709551616 + r ∧ t * 18446744073709551616 + r ≤ 9223372036854775807 := by
    unfold wrap64 at h'; omega
  have he : wrap64 r = t * 18446744073709551616 + r := by
    unfold wrap64 at *; omega
  unfold num64 ok64
  exact ⟨by rw [if_pos hn, he], by simp only [decide_eq_true hn]⟩

theorem ret_ib {k : IntKind} {a b : Int} {c d : Bool} (h : a = b ∧ c = d) : Ending.returned (.tuple #[.int k a, .bool c]) = .returned (.tuple #[.int k b, .bool d]) := by rw [h.1, h.2]
theorem ret_ii {k l : IntKind} {a b c d : Int} (h : a = b ∧ c = d) : Ending.returned (.tuple #[.int k a, .int l c]) = .returned (.tuple #[.int k b, .int l d]) := by rw [h.1, h.2]

set_option maxHeartbeats 400000 in
theorem narrow_any (t r : Int) (w : World) (h0 : 0 ≤ r) (h1 : r ≤ 18446744073709551615) :
    Calls Try.prog 23 #[.int .i64 t, .int .u64 r] w fun e w' => e = .returned (.tuple #[.int .i64 (num64 (t * 18446744073709551616 + r)), .bool (ok64 (t * 18446744073709551616 + r))]) ∧ w' = w := by
  go_enter Try.func23, Try.ntmps23
  go_wp2
  · go_ret2
    exact ⟨ret_ib (narrow_no t r h0 h1 ‹_›), rfl⟩
  · go_ret2
    exact ⟨ret_ib (narrow_yes t r h0 h1 ‹_›), rfl⟩

theorem mul64_hi (x y : Int) (h0 : 0 ≤ x) (h1 : x ≤ 18446744073709551615) (h2 : 0 ≤ y) (h3 : y ≤ 18446744073709551615) :
    IntKind.u64.wrap (IntKind.u64.wrap (IntKind.u64.wrap (x / 4294967296 * (y / 4294967296)) +
       IntKind.u64.wrap (IntKind.u64.wrap (x / 4294967296 * bits BinOp.and IntKind.u64 y 4294967295) +
         IntKind.u64.wrap (bits BinOp.and IntKind.u64 x 4294967295 * bits BinOp.and IntKind.u64 y 4294967295) / 4294967296) / 4294967296) +
       IntKind.u64.wrap (bits BinOp.and IntKind.u64 (IntKind.u64.wrap (IntKind.u64.wrap (x / 4294967296 * bits BinOp.and IntKind.u64 y 4294967295) +
           IntKind.u64.wrap (bits BinOp.and IntKind.u64 x 4294967295 * bits BinOp.and IntKind.u64 y 4294967295) / 4294967296)) 4294967295 +
         IntKind.u64.wrap (bits BinOp.and IntKind.u64 x 4294967295 * (y / 4294967296))) / 4294967296) = x * y / 18446744073709551616 := by
  simp only [IntKind.wrap_u64]
  rw [and_low32 x h0 (by omega), and_low32 y h2 (by omega), and_low32 _ (by omega) (by omega)]
  exact mul64_arith x y h0 (by omega) h2 (by omega)

set_option maxHeartbeats 400000 in
theorem mul64_any (x y : Int) (w : World) (h0 : 0 ≤ x) (h1 : x ≤ 18446744073709551615) (h2 : 0 ≤ y) (h3 : y ≤ 18446744073709551615) :
    Calls Try.prog 24 #[.int .u64 x, .int .u64 y] w fun e w' => e = .returned (.tuple #[.int .u64 (x * y / 18446744073709551616), .int .u64 (x * y % 18446744073709551616)]) ∧ w' = w := by
  go_enter Try.func24, Try.ntmps24
  go_wp2
  go_ret2
  exact ⟨ret_ii ⟨mul64_hi x y h0 h1 h2 h3, IntKind.wrap_u64 _⟩, rfl⟩

def sizeI (x : Int) : Int := if x < 0 then -x else x
set_option maxHeartbeats 400000 in
theorem size_any (x : Int) (w : World) (hx : In64 x) :
    Calls Try.prog 19 #[.int .i64 x] w fun e w' => e = .returned (.int .u64 (sizeI x)) ∧ w' = w := by
  obtain ⟨hx1, hx2⟩ := hx
  by_cases c : x < 0
  · have Hv := hide (show sizeI x = -x by unfold sizeI; rw [if_pos c])
    go_enter Try.func19, Try.ntmps19
    go_wp2
    go_ret
    exact ⟨ret_int (by rw [unhide Hv]; omega), rfl⟩
  · have Hv := hide (show sizeI x = x by unfold sizeI; rw [if_neg c])
    go_enter Try.func19, Try.ntmps19
    go_wp2
    go_ret
    exact ⟨ret_int (by rw [unhide Hv]), rfl⟩

end Go.Proofs.Ytofmkhjdnmgdlaa
