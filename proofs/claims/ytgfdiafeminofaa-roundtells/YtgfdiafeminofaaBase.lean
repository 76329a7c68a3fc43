/- Contracts of package sat and of the document's answers for layer 1, and plain facts on integers. -/
import Derived.Test.YtgfdiafeminofaaRows
import Derived.WalkKit
import Derived.WalkSpells
import Derived.WalkLawsBesides
import Derived.Deep.RegionWith
import Derived.Laws.AppendOwnNone
import Derived.Deep.RegionHeld3
import Derived.Deep.AppendLies
namespace Go.Proofs.Ytgfdiafeminofaa
open Go.RowKit
set_option linter.unusedVariables false

def clampI (x l h : Int) : Int := if x < l then l else if h < x then h else x

def pw (b : Int) : Int := 2 ^ (b.toNat - 1)

def satI (x b : Int) : Int := clampI x (-(pw b)) (pw b - 1)

def In64 (x : Int) : Prop := -9223372036854775808 ≤ x ∧ x ≤ 9223372036854775807

def sat0 (x b : Int) : Int := if 1 ≤ b ∧ b ≤ 64 then satI x b else 0

def ok64 (n : Int) : Bool := decide (-9223372036854775808 ≤ n ∧ n ≤ 9223372036854775807)

def num64 (n : Int) : Int := if -9223372036854775808 ≤ n ∧ n ≤ 9223372036854775807 then n else 0

theorem two_pow_le (m n : Nat) (h : m ≤ n) : (2 : Int) ^ m ≤ 2 ^ n := by
  have h1 : 2 ^ m ≤ 2 ^ n := Nat.pow_le_pow_right (by decide) h
  exact_mod_cast h1

theorem pw_pos (b : Int) : 1 ≤ pw b := by
  unfold pw
  have := Int.pow_pos (n := 2) (m := b.toNat - 1) (by decide)
  omega

theorem pw_le (b : Int) (h : b ≤ 64) : pw b ≤ 9223372036854775808 := by
  unfold pw
  have h1 : (2 : Int) ^ (b.toNat - 1) ≤ 2 ^ 63 := two_pow_le _ _ (by omega)
  simpa using h1

theorem pw_succ (b : Int) (h : 1 ≤ b) : pw (b + 1) = 2 * pw b := by
  unfold pw
  rw [show (b + 1).toNat - 1 = (b.toNat - 1) + 1 by omega, Int.pow_succ]; omega

theorem pw_one : pw 1 = 1 := by decide

theorem i64_not_any (x : Int) (h : In64 x) : bits .xor .i64 (-1) x = -1 - x := by
  obtain ⟨h0, h1⟩ := h
  show IntKind.i64.wrap ((BitVec.ofInt 64 (-1) ^^^ BitVec.ofInt 64 x).toNat : Int) = _
  have h1' : BitVec.ofInt 64 (-1) = BitVec.allOnes 64 := by decide
  rw [h1', BitVec.allOnes_xor, BitVec.toNat_not, BitVec.toNat_ofInt, IntKind.wrap_i64]
  omega

theorem in_of_wf {x : Int} (h : (Lit.int .i64 x).wf = true) : In64 x := by
  simp [Lit.wf, IntKind.min, IntKind.max, IntKind.signed, IntKind.bits] at h
  exact ⟨by omega, by omega⟩

theorem hide {p : Prop} (h : p) : Hid p := h

theorem unhide {p : Prop} (h : Hid p) : p := h

theorem w64_in {n : Int} (h : In64 n) : wrap64 n = n := by obtain ⟨h0, h1⟩ := h; unfold wrap64; omega

theorem i64_mask (n m : Int) (k : Nat) (hk : k ≤ 62) (hm : (BitVec.ofInt 64 m).toNat = 2 ^ k - 1) : bits .and .i64 n m = n % 2 ^ k := by
  have key : (BitVec.ofInt 64 n &&& BitVec.ofInt 64 m).toNat = (n % ((2 ^ 64 : Nat) : Int)).toNat % 2 ^ k := by
    rw [BitVec.toNat_and, BitVec.toNat_ofInt, hm, Nat.and_two_pow_sub_one_eq_mod]
  show IntKind.i64.wrap ((BitVec.ofInt 64 n &&& BitVec.ofInt 64 m).toNat : Nat) = n % 2 ^ k
  rw [key, IntKind.wrap_i64]
  have h0 : 0 ≤ n % ((2 ^ 64 : Nat) : Int) := Int.emod_nonneg _ (by decide)
  have h1 : ((((n % ((2 ^ 64 : Nat) : Int)).toNat % 2 ^ k : Nat)) : Int) = n % 2 ^ k := by
    rw [Int.natCast_emod, Int.toNat_of_nonneg h0]
    have hd : ((2 ^ k : Nat) : Int) ∣ ((2 ^ 64 : Nat) : Int) := Int.natCast_dvd_natCast.2 (Nat.pow_dvd_pow 2 (by omega))
    rw [Int.emod_emod_of_dvd n hd]
    simp
  rw [h1]
  have h2 : (2 : Int) ^ k ≤ 2 ^ 62 := two_pow_le k 62 hk
  have h3 : (0 : Int) < 2 ^ k := Int.pow_pos (by decide)
  have h4 := Int.emod_nonneg n (b := 2 ^ k) (by omega)
  have h5 := Int.emod_lt_of_pos n h3
  generalize n % 2 ^ k = r at *
  generalize (2 : Int) ^ k = q at *
  have h6 : (2 : Int) ^ 62 = 4611686018427387904 := by decide
  omega

theorem i64_and63 (n : Int) : bits .and .i64 n 63 = n % 64 := i64_mask n 63 6 (by decide) (by decide)

theorem i64_and_low32 (n : Int) : bits .and .i64 n 4294967295 = n % 4294967296 := i64_mask n 4294967295 32 (by decide) (by decide)

theorem ret_int {k : IntKind} {a b : Int} (h : a = b) : Ending.returned (.int k a) = .returned (.int k b) := by rw [h]

theorem ret_bool {a b : Bool} (h : a = b) : Ending.returned (.bool a) = .returned (.bool b) := by rw [h]

set_option maxHeartbeats 400000 in
theorem clamp_any (x l h : Int) (w : World) :
    Calls Try.prog 32 #[.int .i64 x, .int .i64 l, .int .i64 h] w fun e w' => e = .returned (.int .i64 (clampI x l h)) ∧ w' = w := by
  unfold clampI
  by_cases c1 : x < l
  · go_enter Try.func32, Try.ntmps32
    go_wp2
    go_ret
    exact ⟨by simp, rfl⟩
  · by_cases c2 : h < x
    · go_enter Try.func32, Try.ntmps32
      go_wp2
      go_ret
      exact ⟨by simp, rfl⟩
    · go_enter Try.func32, Try.ntmps32
      go_wp2
      go_ret
      exact ⟨by simp, rfl⟩

set_option maxHeartbeats 400000 in
theorem rclamp_any (x l h : Int) (w : World) :
    Calls Try.prog 36 #[.int .i64 x, .int .i64 l, .int .i64 h] w fun e w' => e = .returned (.int .i64 (clampI x l h)) ∧ w' = w := by
  unfold clampI
  by_cases c1 : x < l
  · go_enter Try.func36, Try.ntmps36
    go_wp2
    go_ret
    exact ⟨by simp, rfl⟩
  · by_cases c2 : h < x
    · go_enter Try.func36, Try.ntmps36
      go_wp2
      go_ret
      exact ⟨by simp, rfl⟩
    · go_enter Try.func36, Try.ntmps36
      go_wp2
      go_ret
      exact ⟨by simp, rfl⟩

set_option maxHeartbeats 400000 in
theorem ends_no (b : Int) (w : World) (hb : b < 1 ∨ 64 < b) :
    Calls Try.prog 31 #[.int .i64 b] w fun e w' => e = .returned (.tuple #[.int .i64 0, .int .i64 0, .bool false]) ∧ w' = w := by
  by_cases c1 : b < 1
  · go_enter Try.func31, Try.ntmps31
    go_wp2
    go_ret3
    exact ⟨rfl, rfl⟩
  · have c2 : 64 < b := by omega
    go_enter Try.func31, Try.ntmps31
    go_wp2
    go_ret3
    exact ⟨rfl, rfl⟩

theorem ends_val (b : Int) (h2 : b ≤ 64) : Ending.returned (.tuple #[.int .i64 (wrap64 (-2 ^ (b.toNat - 1))), .int .i64 (bits .xor .i64 (-1) (wrap64 (-2 ^ (b.toNat - 1)))), .bool true]) =
    Ending.returned (.tuple #[.int .i64 (-(pw b)), .int .i64 (pw b - 1), .bool true]) := by
  have e : (-2 ^ (b.toNat - 1) : Int) = -(pw b) := rfl
  have h3 := pw_pos b
  have h4 := pw_le b h2
  rw [e, w64_in ⟨by omega, by omega⟩, i64_not_any _ ⟨by omega, by omega⟩, show -1 - -(pw b) = pw b - 1 by omega]

set_option maxHeartbeats 400000 in
theorem ends_yes (b : Int) (w : World) (h1 : 1 ≤ b) (h2 : b ≤ 64) :
    Calls Try.prog 31 #[.int .i64 b] w fun e w' => e = .returned (.tuple #[.int .i64 (-(pw b)), .int .i64 (pw b - 1), .bool true]) ∧ w' = w := by
  go_enter Try.func31, Try.ntmps31
  go_wp2
  go_ret3
  exact ⟨ends_val b h2, rfl⟩

set_option maxHeartbeats 400000 in
theorem sat_any (x b : Int) (w : World) :
    Calls Try.prog 22 #[.int .i64 x, .int .i64 b] w fun e w' => e = .returned (.int .i64 (sat0 x b)) ∧ w' = w := by
  unfold sat0 satI
  by_cases hb : 1 ≤ b ∧ b ≤ 64
  · rw [if_pos hb]
    obtain ⟨h1, h2⟩ := hb
    go_enter Try.func22, Try.ntmps22
    go_wp2_with fail
    refine (ends_yes _ _ h1 h2).mono ?_
    rintro e w' ⟨rfl, rfl⟩
    go_wp2_with fail
    refine (clamp_any _ _ _ _).mono ?_
    rintro e w' ⟨rfl, rfl⟩
    go_wp2
    go_ret
    exact ⟨rfl, rfl⟩
  · rw [if_neg hb]
    go_enter Try.func22, Try.ntmps22
    go_wp2_with fail
    refine (ends_no _ _ (by omega)).mono ?_
    rintro e w' ⟨rfl, rfl⟩
    go_wp2
    go_ret
    exact ⟨rfl, rfl⟩

set_option maxHeartbeats 400000 in
theorem may_any (b : Int) (w : World) :
    Calls Try.prog 34 #[.int .i64 b] w fun e w' => e = .returned (.bool (decide (1 ≤ b ∧ b ≤ 64))) ∧ w' = w := by
  by_cases c1 : 1 ≤ b
  · go_enter Try.func34, Try.ntmps34
    go_wp2
    go_ret
    exact ⟨ret_bool (by simp [c1]), rfl⟩
  · have c1' : decide (1 ≤ b) = false := by simpa using c1
    go_enter Try.func34, Try.ntmps34
    go_wp2
    go_ret
    exact ⟨ret_bool (by simp), rfl⟩

set_option maxHeartbeats 400000 in
theorem low_any (b : Int) (w : World) (h1 : 1 ≤ b) (h2 : b ≤ 64) :
    Calls Try.prog 35 #[.int .i64 b] w fun e w' => e = .returned (.int .i64 (-(pw b))) ∧ w' = w := by
  go_enter Try.func35, Try.ntmps35
  go_wp2
  go_loop [3, 4] (fun l i => ∃ k : Int, 1 ≤ k ∧ k ≤ b ∧ i = .int .i64 k ∧ l = .int .i64 (-(pw k))) (fun _ i => (b - intOf i).toNat)
  case atStart => exact ⟨1, by omega, h1, rfl, by rw [pw_one]⟩
  case round =>
    obtain ⟨k, hk1, hk2, rfl, rfl⟩ := hrel
    by_cases hlt : k < b
    · have hp := pw_pos k
      have hq := pw_le (k + 1) (by omega)
      have hs := pw_succ k hk1
      have hb0 : -9223372036854775808 ≤ -(2 * pw k) := by omega
      have HS := hide (show -(pw k) * 2 = -(pw (k + 1)) by omega)
      clear hs hq
      go_wp2
      go_round
      case rel => exact ⟨k + 1, by omega, by omega, by go_num, by first | rw [unhide HS] | (rw [← unhide HS]; go_num)⟩
      case measure => simp [intOf]; omega
    · have e : k = b := by omega
      subst e
      go_wp2
      go_ret
      exact ⟨rfl, rfl⟩

theorem narrow_no (t r : Int) (h0 : 0 ≤ r) (h1 : r ≤ 18446744073709551615) (h : (t != wrap64 r / 9223372036854775808) = true) :
    (0 : Int) = num64 (t * 18446744073709551616 + r) ∧ false = ok64 (t * 18446744073709551616 + r) := by
  have h' : t ≠ wrap64 r / 9223372036854775808 := by simpa using h
  have hn : ¬ (-9223372036854775808 ≤ t * 18446744073709551616 + r ∧ t * 18446744073709551616 + r ≤ 9223372036854775807) := by
    unfold wrap64 at h'; omega
  unfold num64 ok64
  exact ⟨by rw [if_neg hn], by simp only [decide_eq_false hn]⟩

theorem narrow_yes (t r : Int) (h0 : 0 ≤ r) (h1 : r ≤ 18446744073709551615) (h : (t != wrap64 r / 9223372036854775808) = false) :
    wrap64 r = num64 (t * 18446744073709551616 + r) ∧ true = ok64 (t * 18446744073709551616 + r) := by
  have h' : t = wrap64 r / 9223372036854775808 := by simpa using h
  have hn : -9223372036854775808 ≤ t * 18446744073709551616 + r ∧ t * 18446744073709551616 + r ≤ 9223372036854775807 := by
    unfold wrap64 at h'; omega
  have he : wrap64 r = t * 18446744073709551616 + r := by
    unfold wrap64 at *; omega
  unfold num64 ok64
  exact ⟨by rw [if_pos hn, he], by simp only [decide_eq_true hn]⟩

theorem ret_ib {k : IntKind} {a b : Int} {c d : Bool} (h : a = b ∧ c = d) : Ending.returned (.tuple #[.int k a, .bool c]) = .returned (.tuple #[.int k b, .bool d]) := by rw [h.1, h.2]

theorem ret_ii {k l : IntKind} {a b c d : Int} (h : a = b ∧ c = d) : Ending.returned (.tuple #[.int k a, .int l c]) = .returned (.tuple #[.int k b, .int l d]) := by rw [h.1, h.2]

set_option maxHeartbeats 400000 in
theorem narrow_any (t r : Int) (w : World) (h0 : 0 ≤ r) (h1 : r ≤ 18446744073709551615) :
    Calls Try.prog 39 #[.int .i64 t, .int .u64 r] w fun e w' => e = .returned (.tuple #[.int .i64 (num64 (t * 18446744073709551616 + r)), .bool (ok64 (t * 18446744073709551616 + r))]) ∧ w' = w := by
  go_enter Try.func39, Try.ntmps39
  go_wp2
  · go_ret2
    exact ⟨ret_ib (narrow_no t r h0 h1 ‹_›), rfl⟩
  · go_ret2
    exact ⟨ret_ib (narrow_yes t r h0 h1 ‹_›), rfl⟩

theorem mul64_hi (x y : Int) (h0 : 0 ≤ x) (h1 : x ≤ 18446744073709551615) (h2 : 0 ≤ y) (h3 : y ≤ 18446744073709551615) :
    IntKind.u64.wrap (IntKind.u64.wrap (IntKind.u64.wrap (x / 4294967296 * (y / 4294967296)) +
       IntKind.u64.wrap (IntKind.u64.wrap (x / 4294967296 * bits BinOp.and IntKind.u64 y 4294967295) +
         IntKind.u64.wrap (bits BinOp.and IntKind.u64 x 4294967295 * bits BinOp.and IntKind.u64 y 4294967295) / 4294967296) / 4294967296) +
       IntKind.u64.wrap (bits BinOp.and IntKind.u64 (IntKind.u64.wrap (IntKind.u64.wrap (x / 4294967296 * bits BinOp.and IntKind.u64 y 4294967295) +
           IntKind.u64.wrap (bits BinOp.and IntKind.u64 x 4294967295 * bits BinOp.and IntKind.u64 y 4294967295) / 4294967296)) 4294967295 +
         IntKind.u64.wrap (bits BinOp.and IntKind.u64 x 4294967295 * (y / 4294967296))) / 4294967296) = x * y / 18446744073709551616 := by
  simp only [IntKind.wrap_u64]
  rw [and_low32 x h0 (by omega), and_low32 y h2 (by omega), and_low32 _ (by omega) (by omega)]
  exact mul64_arith x y h0 (by omega) h2 (by omega)

set_option maxHeartbeats 400000 in
theorem mul64_any (x y : Int) (w : World) (h0 : 0 ≤ x) (h1 : x ≤ 18446744073709551615) (h2 : 0 ≤ y) (h3 : y ≤ 18446744073709551615) :
    Calls Try.prog 40 #[.int .u64 x, .int .u64 y] w fun e w' => e = .returned (.tuple #[.int .u64 (x * y / 18446744073709551616), .int .u64 (x * y % 18446744073709551616)]) ∧ w' = w := by
  go_enter Try.func40, Try.ntmps40
  go_wp2
  go_ret2
  exact ⟨ret_ii ⟨mul64_hi x y h0 h1 h2 h3, IntKind.wrap_u64 _⟩, rfl⟩

theorem prod_bd (a b : Int) (ha : In64 a) (hb : In64 b) : -85070591730234615865843651857942052864 ≤ a * b ∧ a * b ≤ 85070591730234615865843651857942052864 := by
  obtain ⟨a1, a2⟩ := ha
  obtain ⟨b1, b2⟩ := hb
  have n1 : a.natAbs ≤ 9223372036854775808 := by omega
  have n2 : b.natAbs ≤ 9223372036854775808 := by omega
  have n3 := Nat.mul_le_mul n1 n2
  rw [← Int.natAbs_mul] at n3
  omega

/-- The upper half, whatever the signs. -/
theorem mul_top (a b : Int) (ha : In64 a) (hb : In64 b) :
    (a % 18446744073709551616) * (b % 18446744073709551616) % 18446744073709551616 = a * b % 18446744073709551616 ∧
    (a % 18446744073709551616) * (b % 18446744073709551616) / 18446744073709551616 = a * b / 18446744073709551616 + (if a < 0 then b else 0) + (if b < 0 then a else 0) + (if a < 0 ∧ b < 0 then 18446744073709551616 else 0) := by
  have hp := prod_bd a b ha hb
  obtain ⟨a1, a2⟩ := ha
  obtain ⟨b1, b2⟩ := hb
  have ea : a % 18446744073709551616 = if a < 0 then a + 18446744073709551616 else a := by split <;> omega
  have eb : b % 18446744073709551616 = if b < 0 then b + 18446744073709551616 else b := by split <;> omega
  rw [ea, eb]
  by_cases c1 : a < 0 <;> by_cases c2 : b < 0
  · simp only [c1, c2, if_true, and_self]
    have e : (a + 18446744073709551616) * (b + 18446744073709551616) = a * b + (a + b + 18446744073709551616) * 18446744073709551616 := by grind
    rw [e]
    generalize a * b = P at *
    omega
  · simp only [c1, c2, if_true, if_false, and_false]
    have e : (a + 18446744073709551616) * b = a * b + b * 18446744073709551616 := by grind
    rw [e]
    generalize a * b = P at *
    omega
  · simp only [c1, c2, if_true, if_false, false_and]
    have e : a * (b + 18446744073709551616) = a * b + a * 18446744073709551616 := by grind
    rw [e]
    generalize a * b = P at *
    omega
  · simp [c1, c2]

theorem mul_ret (a b t r : Int) (h : t * 18446744073709551616 + r = a * b) :
    Ending.returned (.tuple #[.int .i64 (num64 (t * 18446744073709551616 + r)), .bool (ok64 (t * 18446744073709551616 + r))]) = Ending.returned (.tuple #[.int .i64 (num64 (a * b)), .bool (ok64 (a * b))]) := by rw [h]

theorem top2 (P q b c : Int) (hP : -85070591730234615865843651857942052864 ≤ P ∧ P ≤ 85070591730234615865843651857942052864) (e : q = P / 18446744073709551616 + b + c + 18446744073709551616) :
    wrap64 (wrap64 (wrap64 q - b) - c) * 18446744073709551616 + P % 18446744073709551616 = P := by
  have h : wrap64 (wrap64 (wrap64 q - b) - c) = P / 18446744073709551616 := by
    subst e; unfold wrap64; omega
  rw [h]; omega

theorem top1 (P q b : Int) (hP : -85070591730234615865843651857942052864 ≤ P ∧ P ≤ 85070591730234615865843651857942052864) (e : q = P / 18446744073709551616 + b) :
    wrap64 (wrap64 q - b) * 18446744073709551616 + P % 18446744073709551616 = P := by
  have h : wrap64 (wrap64 q - b) = P / 18446744073709551616 := by
    subst e; unfold wrap64; omega
  rw [h]; omega

theorem top0 (P q : Int) (hP : -85070591730234615865843651857942052864 ≤ P ∧ P ≤ 85070591730234615865843651857942052864) (e : q = P / 18446744073709551616) :
    wrap64 q * 18446744073709551616 + P % 18446744073709551616 = P := by
  have h : wrap64 q = P / 18446744073709551616 := by
    subst e; unfold wrap64; omega
  rw [h]; omega

set_option maxHeartbeats 400000 in
theorem mul_any (a b : Int) (w : World) (ha : In64 a) (hb : In64 b) :
    Calls Try.prog 33 #[.int .i64 a, .int .i64 b] w fun e w' => e = .returned (.tuple #[.int .i64 (num64 (a * b)), .bool (ok64 (a * b))]) ∧ w' = w := by
  have H := hide (mul_top a b ha hb)
  have Hp := hide (prod_bd a b ha hb)
  have k1 := Int.emod_nonneg a (b := 18446744073709551616) (by decide)
  have k2 := Int.emod_lt_of_pos a (b := 18446744073709551616) (by decide)
  have k3 := Int.emod_nonneg b (b := 18446744073709551616) (by decide)
  have k4 := Int.emod_lt_of_pos b (b := 18446744073709551616) (by decide)
  obtain ⟨a1, a2⟩ := ha
  obtain ⟨b1, b2⟩ := hb
  go_enter Try.func33, Try.ntmps33
  go_wp2_with fail
  rw [IntKind.wrap_u64, IntKind.wrap_u64]
  refine (mul64_any _ _ _ k1 (by omega) k3 (by omega)).mono ?_
  rintro e w' ⟨rfl, rfl⟩
  rw [(unhide H).1]
  generalize hq : a % 18446744073709551616 * (b % 18446744073709551616) / 18446744073709551616 = q
  have Hq := hide hq
  clear hq
  by_cases c1 : a < 0 <;> by_cases c2 : b < 0
  · go_wp2_with fail
    refine (narrow_any _ _ _ (by omega) (by omega)).mono ?_
    rintro e w' ⟨rfl, rfl⟩
    go_wp2
    go_ret2
    exact ⟨mul_ret a b _ _ (top2 _ _ _ _ (unhide Hp) (by have h := (unhide H).2; rw [unhide Hq] at h; rw [h]; simp [c1, c2])), rfl⟩
  · go_wp2_with fail
    refine (narrow_any _ _ _ (by omega) (by omega)).mono ?_
    rintro e w' ⟨rfl, rfl⟩
    go_wp2
    go_ret2
    exact ⟨mul_ret a b _ _ (top1 _ _ _ (unhide Hp) (by have h := (unhide H).2; rw [unhide Hq] at h; rw [h]; rw [if_pos c1, if_neg (by omega), if_neg (by omega)]; omega)), rfl⟩
  · go_wp2_with fail
    refine (narrow_any _ _ _ (by omega) (by omega)).mono ?_
    rintro e w' ⟨rfl, rfl⟩
    go_wp2
    go_ret2
    exact ⟨mul_ret a b _ _ (top1 _ _ _ (unhide Hp) (by have h := (unhide H).2; rw [unhide Hq] at h; rw [h]; rw [if_neg (by omega), if_pos c2, if_neg (by omega)]; omega)), rfl⟩
  · go_wp2_with fail
    refine (narrow_any _ _ _ (by omega) (by omega)).mono ?_
    rintro e w' ⟨rfl, rfl⟩
    go_wp2
    go_ret2
    exact ⟨mul_ret a b _ _ (top0 _ _ (unhide Hp) (by have h := (unhide H).2; rw [unhide Hq] at h; rw [h]; rw [if_neg (by omega), if_neg (by omega), if_neg (by omega)]; omega)), rfl⟩

theorem add64 (x y : Int) (hx : 0 ≤ x) (hy : 0 ≤ y) (w : World) : (callFunc 38 #[.int .u64 x, .int .u64 y, .int .u64 0]).run Try.prog w =
    .ok (.value (.tuple #[.int .u64 ((x + y) % 18446744073709551616), .int .u64 ((x + y) / 18446744073709551616)])) w := by
  rw [run_callFunc_extern Try.func38 (by kernel_rfl) (by kernel_rfl) (by kernel_rfl) (e := add64Entry) (by kernel_rfl), run_add64 x y 0 hx hy (by omega) (by omega)]
  simp only [Result.andThen, Int.add_zero]

theorem sum1_r (x r : Int) : (r + IntKind.u64.wrap x) % 18446744073709551616 = (r + x) % 18446744073709551616 := by rw [IntKind.wrap_u64]; omega

theorem sum1_t (x r t : Int) (hx : In64 x) (r0 : 0 ≤ r) (r1 : r ≤ 18446744073709551615) (t0 : -4611686018427387904 ≤ t) (t1 : t ≤ 4611686018427387904) :
    wrap64 (t + wrap64 (x / 9223372036854775808 + wrap64 ((r + IntKind.u64.wrap x) / 18446744073709551616))) = t + (r + x) / 18446744073709551616 := by
  obtain ⟨x1, x2⟩ := hx
  rw [IntKind.wrap_u64]
  have hc : x / 9223372036854775808 + (r + x % 18446744073709551616) / 18446744073709551616 = (r + x) / 18446744073709551616 := by
    by_cases c : x < 0
    · have e1 : x / 9223372036854775808 = -1 := by omega
      have e2 : x % 18446744073709551616 = x + 18446744073709551616 := by omega
      rw [e1, e2]; omega
    · have e1 : x / 9223372036854775808 = 0 := by omega
      have e2 : x % 18446744073709551616 = x := by omega
      rw [e1, e2]; omega
  have hd : 0 ≤ (r + x % 18446744073709551616) / 18446744073709551616 ∧ (r + x % 18446744073709551616) / 18446744073709551616 ≤ 1 := by omega
  have he : -1 ≤ (r + x) / 18446744073709551616 ∧ (r + x) / 18446744073709551616 ≤ 1 := by omega
  rw [w64_in (n := (r + x % 18446744073709551616) / 18446744073709551616) ⟨by omega, by omega⟩, hc, w64_in (n := (r + x) / 18446744073709551616) ⟨by omega, by omega⟩, w64_in ⟨by omega, by omega⟩]

set_option maxHeartbeats 400000 in
theorem sum1_any (x t r : Int) (bt br : Nat) (w : World) (hx : In64 x) (r0 : 0 ≤ r) (r1 : r ≤ 18446744073709551615) (t0 : -4611686018427387904 ≤ t) (t1 : t ≤ 4611686018427387904) (hne : bt ≠ br)
    (hr : w.heap[br]? = some (.cells #[.int .u64 r] 50 (0, 0))) (ht : w.heap[bt]? = some (.cells #[.int .i64 t] 3 (0, 0))) :
    Calls Try.prog 37 #[.int .i64 x, .pointer (some ⟨br, 0, none⟩), .pointer (some ⟨bt, 0, none⟩)] w fun e w' => e = .returned (.tuple #[]) ∧
      w' = (w.setCell ⟨br, 0, none⟩ (.int .u64 ((r + x) % 18446744073709551616))).setCell ⟨bt, 0, none⟩ (.int .i64 (t + (r + x) / 18446744073709551616)) := by
  have cr := cell_of_one hr
  have fr := free_of_one hr
  have ct := cell_of_one ht
  have ft := free_of_one ht
  obtain ⟨x1, x2⟩ := hx
  have hw : 0 ≤ IntKind.u64.wrap x := by rw [IntKind.wrap_u64]; omega
  go_enter Try.func37, Try.ntmps37
  go_wp2_with (simp only [add64 r _ r0 hw])
  go_end0
  rw [← sum1_r x r, ← sum1_t x r t ⟨x1, x2⟩ r0 r1 t0 t1]
  exact ⟨rfl, rfl⟩

/-- A slice of int lies in memory: its numbers, cell by cell. -/
def Lies (w : World) (a : Option Addr) (xs : List Int) : Prop :=
  xs = [] ∨ ∃ b off, a = some ⟨b, off, none⟩ ∧ b < w.heap.size ∧ ∀ j, j < xs.length → w.cell? ⟨b, off + j, none⟩ = some (.int .i64 (xs.getD j 0))

theorem Lies.below {w w' : World} {a : Option Addr} {xs : List Int} (h : Lies w a xs) (hb : Below w.heap.size w w') : Lies w' a xs := by
  rcases h with h | ⟨b, off, ha, hlt, hc⟩
  · exact .inl h
  · exact .inr ⟨b, off, ha, Nat.lt_of_lt_of_le hlt hb.size, fun j hj => by rw [hb.cell (p := ⟨b, off + j, none⟩) hlt]; exact hc j hj⟩

def Small (xs : List Int) : Prop := ∀ x ∈ xs, In64 x

def sumTo (xs : List Int) (k : Nat) : Int := (xs.take k).sum

theorem sumTo_succ (xs : List Int) (k : Nat) (h : k < xs.length) : sumTo xs (k + 1) = sumTo xs k + xs.getD k 0 := by
  unfold sumTo
  rw [List.take_succ_eq_append_getElem h, List.sum_append]
  simp [List.getD_eq_getElem?_getD, List.getElem?_eq_getElem h]

theorem sumTo_all (xs : List Int) : sumTo xs xs.length = xs.sum := by unfold sumTo; rw [List.take_length]

theorem Small.at {xs : List Int} (h : Small xs) (k : Nat) (hk : k < xs.length) : In64 (xs.getD k 0) := by
  rw [List.getD_eq_getElem?_getD, List.getElem?_eq_getElem hk]
  exact h _ (List.getElem_mem hk)

theorem sumTo_bd (xs : List Int) (h : Small xs) (k : Nat) (hk : k ≤ xs.length) : -(9223372036854775808 * (k : Int)) ≤ sumTo xs k ∧ sumTo xs k ≤ 9223372036854775808 * (k : Int) := by
  induction k with
  | zero => simp [sumTo]
  | succ k ih =>
    have h1 := ih (by omega)
    have h2 := h.at k (by omega)
    obtain ⟨h3, h4⟩ := h2
    rw [sumTo_succ xs k (by omega)]
    omega

theorem sum_ret (t n : Int) (h : t = n) :
    Ending.returned (.tuple #[.int .i64 (num64 t), .bool (ok64 t)]) = Ending.returned (.tuple #[.int .i64 (num64 n), .bool (ok64 n)]) := by rw [h]

set_option maxHeartbeats 1000000 in
theorem sum_any (a : Option Addr) (cap : Nat) (xs : List Int) (w : World) (hl : Lies w a xs) (hs : Small xs) (hn : xs.length ≤ 1000000) :
    Calls Try.prog 26 #[.slice a xs.length cap] w fun e w' => e = .returned (.tuple #[.int .i64 (num64 xs.sum), .bool (ok64 xs.sum)]) ∧ Below w.heap.size w w' := by
  have hmf : ∀ (fn : Fn) (first cap : Array Value) (w : World), (Instr.makeFunc fn first cap).run Try.prog w = .ok (.func fn first cap) w := fun _ _ _ _ => rfl
  go_enter Try.func26, Try.ntmps26
  go_wp2
  go_loopw [12] (fun i wr => ∃ k : Nat, k ≤ xs.length ∧ i = .int .i64 k ∧ wr.heap[w.heap.size]? = some (.cells #[.int .i64 (sumTo xs k / 18446744073709551616)] 3 (0, 0)) ∧ wr.heap[w.heap.size + 1]? = some (.cells #[.int .u64 (sumTo xs k % 18446744073709551616)] 50 (0, 0)) ∧ Below w.heap.size w wr)
    (fun i _ => xs.length - (intOf i).toNat)
  case atStart =>
    refine ⟨0, Nat.zero_le _, rfl, ?_, ?_, ?_⟩
    · rw [Below.heap_alloc _ _ _ (by simp)]; exact heap_alloc_new _ _
    · have h := heap_alloc_new (w.alloc (.cells #[.int .i64 0] 3)) (.cells #[.int .u64 0] 50)
      rw [World.size_alloc] at h
      exact h
    · exact ((Below.refl _ w).alloc (Nat.le_refl _) _).alloc (by simp) _
  case round =>
    obtain ⟨k, hk, rfl, ht, hr, hb⟩ := hrel
    have bd := sumTo_bd xs hs k hk
    by_cases hlt : k < xs.length
    · obtain rfl | ⟨b, off, rfl, hblt, hcells⟩ := hl
      · simp at hlt
      have hc : wr.cell? ⟨b, off + k, none⟩ = some (.int .i64 (xs.getD k 0)) := by rw [hb.cell (p := ⟨b, off + k, none⟩) hblt]; exact hcells k hlt
      have hx := hs.at k hlt
      have hsucc := sumTo_succ xs k hlt
      generalize xs.getD k 0 = x at *
      generalize hS : sumTo xs k = S at *
      generalize hS' : sumTo xs (k + 1) = S' at *
      have HS := hide hsucc
      have H1 := hide hS
      have H2 := hide hS'
      clear hsucc hS hS' hcells
      go_wp2_with fail
      refine (sum1_any x (S / 18446744073709551616) (S % 18446744073709551616) w.heap.size (w.heap.size + 1) wr hx (by omega) (by omega) (by omega) (by omega) (by omega) hr ht).mono ?_
      rintro e w1 ⟨rfl, rfl⟩
      go_wp2
      go_roundw
      case rel =>
        have h1 := unhide HS
        have h2 := unhide H2
        refine ⟨k + 1, by omega, by go_num, ?_, ?_, ?_⟩
        · rw [h2, h1, show (S + x) / 18446744073709551616 = S / 18446744073709551616 + (S % 18446744073709551616 + x) / 18446744073709551616 by omega]
          exact one_setCell ((Below.heap_setCell _ _ _ _ (by show w.heap.size ≠ w.heap.size + 1; omega)).trans ht)
        · rw [h2, h1]
          exact (Below.heap_setCell _ _ _ _ (by show w.heap.size + 1 ≠ w.heap.size; omega)).trans (one_setCell hr)
        · exact (hb.setCell (by show w.heap.size ≤ w.heap.size + 1; omega) _).setCell (by show w.heap.size ≤ w.heap.size; omega) _
      case measure => simp [intOf]; omega
    · have e : k = xs.length := by omega
      subst e
      have ct := cell_of_one ht
      have cr := cell_of_one hr
      go_wp2_with fail
      refine (narrow_any _ _ _ (by omega) (by omega)).mono ?_
      rintro e w1 ⟨rfl, rfl⟩
      go_wp2
      go_ret2
      exact ⟨sum_ret _ _ (by have := sumTo_all xs; omega), hb⟩

theorem World.heap_drew (w : World) : w.drew.heap = w.heap := rfl

theorem lies_new (w : World) (xs : List Int) (n : Nat) (hn : n = w.heap.size) : Lies (w.alloc (.cells (xs.map (Value.int .i64)).toArray 3)) (some ⟨n, 0, none⟩) xs := by
  subst hn
  refine .inr ⟨w.heap.size, 0, rfl, by simp, fun j hj => ?_⟩
  rw [World.cell?_alloc_at _ _ _ _ rfl]
  simp [List.getD_eq_getElem?_getD, List.getElem?_eq_getElem hj]

set_option maxHeartbeats 1000000 in
theorem few_yes (a : Addr) (len cap : Nat) (w : World) (h : 40 < len) (hc : len ≤ cap) (hm : cap ≤ 9223372036854775807) :
    Calls Try.prog 13 #[.slice (some a) len cap] w fun e w' => e = .returned (.slice (some a) 40 cap) ∧ w' = w := by
  have h' : (40 : Int) < (len : Int) := by omega
  have h2 : (40 : Int) ≤ (cap : Int) := by omega
  go_enter Try.func13, Try.ntmps13
  go_wp2
  go_ret
  exact ⟨rfl, rfl⟩

set_option maxHeartbeats 1000000 in
theorem few_no (a : Option Addr) (len cap : Nat) (w : World) (h : len ≤ 40) :
    Calls Try.prog 13 #[.slice a len cap] w fun e w' => e = .returned (.slice a len cap) ∧ w' = w := by
  have h' : ¬ (40 : Int) < (len : Int) := by omega
  go_enter Try.func13, Try.ntmps13
  go_wp2
  go_ret
  exact ⟨rfl, rfl⟩

theorem num_in (n : Int) (h : In64 n) : num64 n = n ∧ ok64 n = true := by
  obtain ⟨h1, h2⟩ := h
  unfold num64 ok64
  exact ⟨by rw [if_pos ⟨h1, h2⟩], decide_eq_true ⟨h1, h2⟩⟩

theorem num_out (n : Int) (h : ¬ In64 n) : num64 n = 0 ∧ ok64 n = false := by
  unfold In64 at h
  unfold num64 ok64
  exact ⟨by rw [if_neg h], decide_eq_false h⟩

def IsRow (k : IntKind) (w : World) (a : Option Addr) (len cap : Nat) (zs : List Int) : Prop :=
  (a = none ∧ len = 0 ∧ cap = 0 ∧ zs = []) ∨
  ∃ x, a = some x ∧ len ≤ cap ∧ cap ≤ maxLen ∧ zs.length = cap ∧ (∀ i, i < zs.length → w.cell? (x.add i) = some (.int k (zs.getD i 0))) ∧ ∀ n ∈ zs, (Lit.int k n).wf = true

theorem lt_of_cell {w : World} {p : Addr} {v : Value} (h : w.cell? p = some v) : p.block < w.heap.size := by
  rcases Nat.lt_or_ge p.block w.heap.size with h' | h'
  · exact h'
  · simp [World.cell?, Array.getElem?_eq_none h'] at h

theorem lies_of_row {w : World} {x : Addr} {zs : List Int} (n : Nat) (hn : n ≤ zs.length) (hc : ∀ i, i < zs.length → w.cell? (x.add i) = some (.int .i64 (zs.getD i 0))) : Lies w (some x) (zs.take n) := by
  by_cases h0 : n = 0
  · subst h0; exact .inl (by simp)
  · obtain ⟨b, off, spot⟩ := x
    have h1 := hc 0 (by omega)
    have hspot : spot = none := by simpa [Addr.add] using World.cell?_spot h1
    subst hspot
    refine .inr ⟨b, off, rfl, ?_, fun j hj => ?_⟩
    · have := lt_of_cell h1; simpa [Addr.add] using this
    · have hj' : j < n := by simp at hj; omega
      have h2 := hc j (by omega)
      rw [show (zs.take n).getD j 0 = zs.getD j 0 by simp [List.getD_eq_getElem?_getD, hj']]
      rw [Addr.add_lit] at h2
      exact h2

theorem small_take {zs : List Int} (n : Nat) (h : ∀ z ∈ zs, (Lit.int .i64 z).wf = true) : Small (zs.take n) := fun x hx => in_of_wf (h x (List.mem_of_mem_take hx))

theorem few_came (a : Option Addr) (len cap : Nat) (zs : List Int) (w : World) (h : IsRow .i64 w a len cap zs) :
    ∃ xs : List Int, xs.length ≤ 40 ∧ xs.length ≤ cap ∧ cap ≤ 9223372036854775807 ∧ Lies w a xs ∧ Small xs ∧ (a = none → xs = [] ∧ cap = 0) ∧
      ∀ w', Calls Try.prog 13 #[.slice a len cap] w' fun e w'' => e = .returned (.slice a xs.length cap) ∧ w'' = w' := by
  rcases h with ⟨rfl, rfl, rfl, rfl⟩ | ⟨x, rfl, hl, hm, hz, hcell, hwz⟩
  · exact ⟨[], by simp, by simp, by omega, .inl rfl, by intro x hx; simp at hx, fun _ => ⟨rfl, rfl⟩, fun w' => few_no none 0 0 w' (by omega)⟩
  · unfold maxLen at hm
    by_cases hlen : 40 < len
    · refine ⟨zs.take 40, by simp; omega, by simp; omega, hm, lies_of_row 40 (by omega) hcell, small_take 40 hwz, fun e => by simp at e, fun w' => ?_⟩
      rw [show (zs.take 40).length = 40 by simp; omega]
      exact few_yes x len cap w' hlen hl hm
    · refine ⟨zs.take len, by simp; omega, by simp; omega, hm, lies_of_row len (by omega) hcell, small_take len hwz, fun e => by simp at e, fun w' => ?_⟩
      rw [show (zs.take len).length = len by simp; omega]
      exact few_no (some x) len cap w' (by omega)

theorem ob (bits : Int) : wrap64 (1 + Go.bits BinOp.and IntKind.i64 bits 63) = 1 + bits % 64 := by
  rw [i64_and63, w64_in ⟨by omega, by omega⟩]

theorem sat0_eq (x b : Int) (h1 : 1 ≤ b) (h2 : b ≤ 64) : sat0 x b = satI x b := by unfold sat0; rw [if_pos ⟨h1, h2⟩]

theorem satI_fits (x b : Int) (h : -(pw b) ≤ x ∧ x ≤ pw b - 1) : satI x b = x := by unfold satI clampI; rw [if_neg (by omega), if_neg (by omega)]

theorem satI_mono (x y b : Int) (h : x ≤ y) : satI x b ≤ satI y b := by
  have := pw_pos b
  unfold satI clampI
  repeat' split
  all_goals omega

theorem Try.info3 : (Try.prog.info? 3).map (fun i => (i.zero, i.size, i.bytes)) = some (some (.int .i64 0), 1, 8) := by kernel_rfl

theorem owned_lies {w : World} {base n : Nat} {v : Value} {xs : List Int} (h : w.ownsRow base 3 1 v n (xs.map (Value.int .i64))) :
    ∃ a cap, v = .slice a xs.length cap ∧ Lies w a xs ∧ xs.length = n := by
  have hn : xs.length = n := by have := h.1; simpa using this
  rcases h.2 with ⟨hv, h0⟩ | ⟨g, cap, cur, hv, hb, hg, _⟩
  · subst h0
    have hx : xs = [] := List.length_eq_zero_iff.1 hn
    subst hx
    exact ⟨none, 0, hv, .inl rfl, rfl⟩
  · refine ⟨some ⟨g, 0, none⟩, cap, by rw [hv, hn], .inr ⟨g, 0, rfl, (Array.getElem?_eq_some_iff.1 hg).1, fun j hj => ?_⟩, hn⟩
    have hc := h.cells (g := g) (by rw [hv]; rfl) j (.int .i64 (xs.getD j 0)) (by simp [List.getD_eq_getElem?_getD, List.getElem?_eq_getElem hj])
    rw [Addr.add_lit] at hc
    exact hc

theorem lies_news {w : World} {ad : Addr} {xs : List Int} (h : Lies w (some ad) xs) : ∀ j u, (xs.map (Value.int .i64))[j]? = some u → w.cell? (ad.add j) = some u := by
  intro j u hu
  rcases h with rfl | ⟨b, off, ha, _, hc⟩
  · simp at hu
  · cases ha
    rw [Addr.add_lit]
    simp at hu
    obtain ⟨z, hz, rfl⟩ := hu
    have hj : j < xs.length := (List.getElem?_eq_some_iff.1 hz).1
    rw [hc j hj, List.getD_eq_getElem?_getD, hz]; rfl

theorem ints_one (xs : List Int) : ∀ u ∈ xs.map (Value.int .i64), u.oneCell' = true := by
  intro u hu
  obtain ⟨z, _, rfl⟩ := List.mem_map.1 hu
  rfl

theorem at_mod (t : Int) (n : Nat) (h : In64 t) (h0 : 0 < n) (h1 : n ≤ 40) : ∃ k : Nat, k < n ∧ (wrap64 (t.tmod n + n)).tmod n = k := by
  have h2 := Int.tmod_lt_of_pos t (b := (n : Int)) (by omega)
  have h3 := Int.lt_tmod_of_pos t (b := (n : Int)) (by omega)
  rw [w64_in ⟨by omega, by omega⟩, Int.tmod_eq_emod_of_nonneg (by omega)]
  have h4 := Int.emod_nonneg (t.tmod n + n) (b := (n : Int)) (by omega)
  have h5 := Int.emod_lt_of_pos (t.tmod n + n) (b := (n : Int)) (by omega)
  exact ⟨((t.tmod n + n) % n).toNat, by omega, by omega⟩

theorem sum_reverse (l : List Int) : l.reverse.sum = l.sum := by
  induction l with
  | nil => rfl
  | cons x l ih => rw [List.reverse_cons, List.sum_append, ih]; simp [Int.add_comm]

theorem sum_len (a : Option Addr) (cap : Nat) (xs : List Int) (n : Nat) (hn : xs.length = n) (w : World) (hl : Lies w a xs) (hs : Small xs) (hle : n ≤ 1000000) :
    Calls Try.prog 26 #[.slice a n cap] w fun e w' => e = .returned (.tuple #[.int .i64 (num64 xs.sum), .bool (ok64 xs.sum)]) ∧ Below w.heap.size w w' := by
  subst hn
  exact sum_any a cap xs w hl hs hle

theorem lies_take {w : World} {a : Option Addr} {xs : List Int} (h : Lies w a xs) (k : Nat) (hk : k ≤ xs.length) : Lies w a (xs.take k) := by
  rcases h with rfl | ⟨b, off, ha, hb, hc⟩
  · exact .inl (by simp)
  · refine .inr ⟨b, off, ha, hb, fun j hj => ?_⟩
    have hj' : j < k := by simp at hj; omega
    rw [hc j (by omega)]
    simp [List.getD_eq_getElem?_getD, hj']

theorem lies_drop {w : World} {b off : Nat} {xs : List Int} (h : Lies w (some ⟨b, off, none⟩) xs) (k : Nat) (hk : k ≤ xs.length) : Lies w (some ⟨b, off + k, none⟩) (xs.drop k) := by
  rcases h with rfl | ⟨b', off', ha, hb, hc⟩
  · exact .inl (by simp)
  · cases ha
    refine .inr ⟨b, off + k, rfl, hb, fun j hj => ?_⟩
    have hj' : k + j < xs.length := by simp at hj; omega
    have := hc (k + j) hj'
    rw [show off + k + j = off + (k + j) by omega, this]
    simp [List.getD_eq_getElem?_getD]

theorem num64_in (n : Int) : In64 (num64 n) := by
  unfold num64
  split
  · assumption
  · exact ⟨by decide, by decide⟩

theorem keep_grown {w w' : World} {o : Obj} {row : Option Nat} {b off : Nat} {v : Value} (hg : ((w.alloc o).drew).grownBy w' row) (hp : b < w.heap.size) (hr : ∀ j, j = b → row ≠ some j) (hc : w.cell? ⟨b, off, none⟩ = some v) : w'.cell? ⟨b, off, none⟩ = some v := by
  rw [← hc]
  apply World.cell?_of_block
  show w'.heap[b]? = w.heap[b]?
  rw [hg.block b (by show b < (w.alloc o).heap.size; simp; omega) (fun e => hr b rfl e.symm)]
  exact Below.heap_alloc w o b hp

theorem num_of_ok (n : Int) (h : ok64 n = true) : num64 n = n := by
  unfold ok64 at h
  have h1 := of_decide_eq_true h
  unfold num64
  rw [if_pos h1]

set_option maxHeartbeats 400000 in
theorem rsat_any (x b : Int) (w : World) :
    Calls Try.prog 25 #[.int .i64 x, .int .i64 b] w fun e w' => e = .returned (.int .i64 (sat0 x b)) ∧ w' = w := by
  by_cases hb : 1 ≤ b ∧ b ≤ 64
  · have hm : decide (1 ≤ b ∧ b ≤ 64) = true := decide_eq_true hb
    have Hm := hide hm
    have Hv := hide (show sat0 x b = clampI x (-(pw b)) (-1 + pw b) by unfold sat0; rw [if_pos hb]; unfold satI; rw [show -1 + pw b = pw b - 1 by omega])
    obtain ⟨h1, h2⟩ := hb
    have hp := pw_pos b
    have hq := pw_le b h2
    clear hm
    go_enter Try.func25, Try.ntmps25
    go_wp2_with fail
    refine (may_any _ _).mono ?_
    rintro e w' ⟨rfl, rfl⟩
    rw [unhide Hm]
    go_wp2_with fail
    refine (low_any _ _ h1 h2).mono ?_
    rintro e w' ⟨rfl, rfl⟩
    go_wp2_with fail
    refine (rclamp_any _ _ _ _).mono ?_
    rintro e w' ⟨rfl, rfl⟩
    go_wp2
    go_ret
    exact ⟨ret_int (unhide Hv).symm, rfl⟩
  · have hm : decide (1 ≤ b ∧ b ≤ 64) = false := decide_eq_false hb
    have Hm := hide hm
    have Hv := hide (show sat0 x b = 0 by unfold sat0; rw [if_neg hb])
    clear hm
    go_enter Try.func25, Try.ntmps25
    go_wp2_with fail
    refine (may_any _ _).mono ?_
    rintro e w' ⟨rfl, rfl⟩
    rw [unhide Hm]
    go_wp2
    go_ret
    exact ⟨ret_int (unhide Hv).symm, rfl⟩

def hiTo (xs : List Int) (k : Nat) : Int := ((xs.take k).map (· / 4294967296)).sum

def loTo (xs : List Int) (k : Nat) : Int := ((xs.take k).map (· % 4294967296)).sum

theorem hiTo_succ (xs : List Int) (k : Nat) (h : k < xs.length) : hiTo xs (k + 1) = hiTo xs k + xs.getD k 0 / 4294967296 := by
  unfold hiTo
  rw [List.take_succ_eq_append_getElem h, List.map_append, List.sum_append]
  simp [List.getD_eq_getElem?_getD, List.getElem?_eq_getElem h]

theorem loTo_succ (xs : List Int) (k : Nat) (h : k < xs.length) : loTo xs (k + 1) = loTo xs k + xs.getD k 0 % 4294967296 := by
  unfold loTo
  rw [List.take_succ_eq_append_getElem h, List.map_append, List.sum_append]
  simp [List.getD_eq_getElem?_getD, List.getElem?_eq_getElem h]

theorem hilo (xs : List Int) (h : Small xs) (k : Nat) (hk : k ≤ xs.length) : hiTo xs k * 4294967296 + loTo xs k = sumTo xs k ∧ -(2147483648 * (k : Int)) ≤ hiTo xs k ∧ hiTo xs k ≤ 2147483648 * (k : Int) ∧ 0 ≤ loTo xs k ∧ loTo xs k ≤ 4294967296 * (k : Int) := by
  induction k with
  | zero => simp [hiTo, loTo, sumTo]
  | succ k ih =>
    have h1 := ih (by omega)
    obtain ⟨h3, h4⟩ := h.at k (by omega)
    rw [hiTo_succ xs k (by omega), loTo_succ xs k (by omega), sumTo_succ xs k (by omega)]
    omega

theorem rsum_val (A B S : Int) (h : A * 4294967296 + B = S) (h1 : -2147483648 ≤ A + B / 4294967296) (h2 : A + B / 4294967296 ≤ 2147483647) : wrap64 ((A + B / 4294967296) * 4294967296 + B % 4294967296) = S := by
  have e : (A + B / 4294967296) * 4294967296 + B % 4294967296 = S := by omega
  rw [e]
  exact w64_in ⟨by omega, by omega⟩

set_option maxHeartbeats 1000000 in
theorem rsum_any (a : Option Addr) (cap : Nat) (xs : List Int) (w : World) (hl : Lies w a xs) (hs : Small xs) (hn : xs.length ≤ 1000000) :
    Calls Try.prog 27 #[.slice a xs.length cap] w fun e w' => e = .returned (.agg #[.int .i64 (num64 xs.sum), .bool (ok64 xs.sum)]) ∧ Below w.heap.size w w' := by
  go_enter Try.func27, Try.ntmps27
  go_wp2
  go_loopw [3, 4, 5] (fun h l i wr => ∃ k : Nat, k ≤ xs.length ∧ i = .int .i64 k ∧ h = .int .i64 (hiTo xs k) ∧ l = .int .i64 (loTo xs k) ∧ wr = w.alloc (.cells #[.int .i64 0, .bool false] 39)) (fun _ _ i _ => xs.length - (intOf i).toNat)
  case atStart => exact ⟨0, Nat.zero_le _, rfl, rfl, rfl, rfl⟩
  case round =>
    obtain ⟨k, hk, rfl, rfl, rfl, rfl⟩ := hrel
    have hh := hilo xs hs k hk
    by_cases hlt : k < xs.length
    · rcases hl with rfl | ⟨ba, off, rfl, hblt, hcells⟩
      · simp at hlt
      have hc : (w.alloc (.cells #[.int .i64 0, .bool false] 39)).cell? ⟨ba, off + k, none⟩ = some (.int .i64 (xs.getD k 0)) := by
        rw [World.cell?_alloc_past _ _ _ hblt]; exact hcells k hlt
      obtain ⟨hx1, hx2⟩ := hs.at k hlt
      have e1 := hiTo_succ xs k hlt
      have e2 := loTo_succ xs k hlt
      generalize xs.getD k 0 = z at *
      generalize hiTo xs k = A at *
      generalize loTo xs k = B at *
      obtain ⟨_, hh1, hh2, hh3, hh4⟩ := hh
      have HM := hide (i64_and_low32 z)
      have E1 := hide e1
      have E2 := hide e2
      have hm0 := Int.emod_nonneg z (b := 4294967296) (by decide)
      have hm1 := Int.emod_lt_of_pos z (b := 4294967296) (by decide)
      clear e1 e2 hcells
      go_wp2
      go_roundw
      case rel => exact ⟨k + 1, by omega, by go_num, by rw [unhide E1], by rw [unhide E2, unhide HM, w64_in ⟨by omega, by omega⟩], trivial⟩
      case measure => simp [intOf]; omega
    · have e : k = xs.length := by omega
      have hS := sumTo_all xs
      rw [← e] at hS
      rw [hS] at hh
      generalize hiTo xs k = A at *
      generalize loTo xs k = B at *
      obtain ⟨hh0, hh1, hh2, hh3, hh4⟩ := hh
      have HH := hide hh0
      clear hh0
      have HM := hide (i64_and_low32 B)
      by_cases c1 : A + B / 4294967296 < -2147483648
      · have Hv := hide (num_out xs.sum (fun h => by have := unhide HH; obtain ⟨q1, q2⟩ := h; omega))
        go_wp2
        exact bodyPost_ret (v := .agg #[.int .i64 0, .bool false]) (by simp [results, Try.results27, go_sem]) rfl ⟨by rw [(unhide Hv).1, (unhide Hv).2], (Below.refl _ _).alloc (Nat.le_refl _) _⟩
      by_cases c2 : 2147483647 < A + B / 4294967296
      · have Hv := hide (num_out xs.sum (fun h => by have := unhide HH; obtain ⟨q1, q2⟩ := h; omega))
        go_wp2
        exact bodyPost_ret (v := .agg #[.int .i64 0, .bool false]) (by simp [results, Try.results27, go_sem]) rfl ⟨by rw [(unhide Hv).1, (unhide Hv).2], (Below.refl _ _).alloc (Nat.le_refl _) _⟩
      · have Hv := hide (num_in xs.sum ⟨by have := unhide HH; omega, by have := unhide HH; omega⟩)
        go_wp2
        exact bodyPost_ret (v := .agg #[.int .i64 (wrap64 ((A + B / 4294967296) * 4294967296 + bits BinOp.and IntKind.i64 B 4294967295)), .bool true]) (by simp [results, Try.results27, go_sem]) rfl ⟨by rw [(unhide Hv).1, (unhide Hv).2, unhide HM, rsum_val A B _ (unhide HH) (by omega) (by omega)], (Below.refl _ _).alloc (Nat.le_refl _) _⟩

theorem rmul_out (a b : Int) (ha : In64 a) (hb : In64 b) (b0 : ¬ b = 0) (hx : ¬ (b = -1 ∧ a = -9223372036854775808)) (hin : ¬ In64 (a * b)) : ¬ wrap64 ((wrap64 (a * b)).tdiv b) = a := by
  intro he
  have hw : In64 (wrap64 (a * b)) := by unfold wrap64; exact ⟨by omega, by omega⟩
  have hmod : ∃ q : Int, wrap64 (a * b) = a * b + q * 18446744073709551616 := ⟨-((a * b + 9223372036854775808) / 18446744073709551616), by unfold wrap64; omega⟩
  generalize hP : a * b = P at *
  generalize wrap64 P = n at *
  obtain ⟨q, hq⟩ := hmod
  have h1 := Int.mul_tdiv_add_tmod n b
  have h2 : (n.tmod b).natAbs < b.natAbs := by
    rw [Int.natAbs_tmod]; exact Nat.mod_lt _ (by omega)
  have h3 : (n.tdiv b).natAbs ≤ n.natAbs := Int.natAbs_tdiv_le_natAbs n b
  obtain ⟨w1, w2⟩ := hw
  obtain ⟨a1, a2⟩ := ha
  obtain ⟨b1, b2⟩ := hb
  have hd : n.tdiv b = a ∨ (n.tdiv b = 9223372036854775808 ∧ a = -9223372036854775808) := by
    unfold wrap64 at he; omega
  rcases hd with hd | ⟨hd, ha'⟩
  · rw [hd, Int.mul_comm b a, hP] at h1
    have : ¬ q = 0 := fun h => by subst h; exact hin ⟨by omega, by omega⟩
    omega
  · have hb1 : b = -1 := by
      rw [hd] at h1
      rcases Int.lt_or_le b (-1) with h | h
      · omega
      · rcases Int.lt_or_le 0 b with h' | h'
        · omega
        · omega
    exact hx ⟨hb1, ha'⟩

set_option maxHeartbeats 1000000 in
theorem rmul_any (a b : Int) (w : World) (ha : In64 a) (hb : In64 b) :
    Calls Try.prog 24 #[.int .i64 a, .int .i64 b] w fun e w' => e = .returned (.agg #[.int .i64 (num64 (a * b)), .bool (ok64 (a * b))]) ∧ Below w.heap.size w w' := by
  by_cases a0 : a = 0
  · subst a0
    rw [Int.zero_mul, show num64 0 = 0 by decide, show ok64 0 = true by decide]
    go_enter Try.func24, Try.ntmps24
    go_wp2
    exact bodyPost_ret (v := .agg #[.int .i64 0, .bool true]) (by simp [results, Try.results24, go_sem]) rfl ⟨rfl, (Below.refl _ _).alloc (Nat.le_refl _) _⟩
  have a0' : (a == 0) = false := by simpa using a0
  by_cases b0 : b = 0
  · subst b0
    rw [Int.mul_zero, show num64 0 = 0 by decide, show ok64 0 = true by decide]
    go_enter Try.func24, Try.ntmps24
    go_wp2
    exact bodyPost_ret (v := .agg #[.int .i64 0, .bool true]) (by simp [results, Try.results24, go_sem]) rfl ⟨rfl, (Below.refl _ _).alloc (Nat.le_refl _) _⟩
  have b0' : (b == 0) = false := by simpa using b0
  by_cases hx1 : a = -1 ∧ b = -9223372036854775808
  · obtain ⟨rfl, rfl⟩ := hx1
    rw [show num64 (-1 * -9223372036854775808) = 0 by decide, show ok64 (-1 * -9223372036854775808) = false by decide]
    go_enter Try.func24, Try.ntmps24
    go_wp2
    exact bodyPost_ret (v := .agg #[.int .i64 0, .bool false]) (by simp [results, Try.results24, go_sem]) rfl ⟨rfl, (Below.refl _ _).alloc (Nat.le_refl _) _⟩
  by_cases hx2 : b = -1 ∧ a = -9223372036854775808
  · obtain ⟨rfl, rfl⟩ := hx2
    rw [show num64 (-9223372036854775808 * -1) = 0 by decide, show ok64 (-9223372036854775808 * -1) = false by decide]
    go_enter Try.func24, Try.ntmps24
    go_wp2
    exact bodyPost_ret (v := .agg #[.int .i64 0, .bool false]) (by simp [results, Try.results24, go_sem]) rfl ⟨rfl, (Below.refl _ _).alloc (Nat.le_refl _) _⟩
  have hg : ((a == -1) = true ∧ (b == -9223372036854775808) = false ∧ (b == -1) = true ∧ (a == -9223372036854775808) = false) ∨ ((a == -1) = true ∧ (b == -9223372036854775808) = false ∧ (b == -1) = false) ∨ ((a == -1) = false ∧ (b == -1) = true ∧ (a == -9223372036854775808) = false) ∨ ((a == -1) = false ∧ (b == -1) = false) := by
    simp only [beq_iff_eq, beq_eq_false_iff_ne, ne_eq]
    omega
  by_cases hin : In64 (a * b)
  · have hv := num_in _ hin
    have hwP : wrap64 (a * b) = a * b := w64_in hin
    have hwa : wrap64 a = a := w64_in ha
    have htd : (a * b).tdiv b = a := Int.mul_tdiv_cancel a b0
    rw [hv.1, hv.2]
    clear hv hin hx1 hx2
    rcases hg with ⟨g1, g2, g3, g4⟩ | ⟨g1, g2, g3⟩ | ⟨g1, g2, g3⟩ | ⟨g1, g2⟩
    all_goals
      go_enter Try.func24, Try.ntmps24
      go_wp2
      exact bodyPost_ret (v := .agg #[.int .i64 (a * b), .bool true]) (by simp [results, Try.results24, go_sem]) rfl ⟨rfl, (Below.refl _ _).alloc (Nat.le_refl _) _⟩
  · have hv := num_out _ hin
    have hno := rmul_out a b ha hb b0 hx2 hin
    rw [hv.1, hv.2]
    clear hv hin hx1 hx2
    rcases hg with ⟨g1, g2, g3, g4⟩ | ⟨g1, g2, g3⟩ | ⟨g1, g2, g3⟩ | ⟨g1, g2⟩
    all_goals
      go_enter Try.func24, Try.ntmps24
      go_wp2
      exact bodyPost_ret (v := .agg #[.int .i64 0, .bool false]) (by simp [results, Try.results24, go_sem]) rfl ⟨rfl, (Below.refl _ _).alloc (Nat.le_refl _) _⟩

theorem undrew {B : Nat} {w w' : World} (h : Below B w.drew w') : Below B w w' := ⟨h.os, h.tape, h.output, h.size, h.block⟩
end Go.Proofs.Ytgfdiafeminofaa
