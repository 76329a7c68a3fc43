/- Plain facts on integers of 64 bits, on which the contracts lean; no Go text here. -/
import Derived.WalkKit
namespace Go.Proofs.Ytofmkhjdnmgdlaa
open Go.RowKit
set_option linter.unusedVariables false

def clampI (x l h : Int) : Int := if x < l then l else if h < x then h else x
def pw (b : Int) : Int := 2 ^ (b.toNat - 1)
def satI (x b : Int) : Int := clampI x (-(pw b)) (pw b - 1)
def In64 (x : Int) : Prop := -9223372036854775808 ≤ x ∧ x ≤ 9223372036854775807
def fitsB (x b : Int) : Bool := decide (1 ≤ b ∧ b ≤ 64 ∧ -(pw b) ≤ x ∧ x ≤ pw b - 1)
def sat0 (x b : Int) : Int := if 1 ≤ b ∧ b ≤ 64 then satI x b else 0
def ok64 (n : Int) : Bool := decide (-9223372036854775808 ≤ n ∧ n ≤ 9223372036854775807)
def num64 (n : Int) : Int := if -9223372036854775808 ≤ n ∧ n ≤ 9223372036854775807 then n else 0
def plusI (a b : Int) : Int := clampI (a + b) (-9223372036854775808) 9223372036854775807

theorem two_pow_le (m n : Nat) (h : m ≤ n) : (2 : Int) ^ m ≤ 2 ^ n := by
  have h1 : 2 ^ m ≤ 2 ^ n := Nat.pow_le_pow_right (by decide) h
  exact_mod_cast h1
theorem pw_pos (b : Int) : 1 ≤ pw b := by
  unfold pw
  have := Int.pow_pos (n := 2) (m := b.toNat - 1) (by decide)
  omega
theorem pw_le (b : Int) (h : b ≤ 64) : pw b ≤ 9223372036854775808 := by
  unfold pw
  have h1 : (2 : Int) ^ (b.toNat - 1) ≤ 2 ^ 63 := two_pow_le _ _ (by omega)
  simpa using h1
theorem pw_mono (b c : Int) (h : b ≤ c) : pw b ≤ pw c := by
  unfold pw
  exact two_pow_le _ _ (by omega)
theorem pw_succ (b : Int) (h : 1 ≤ b) : pw (b + 1) = 2 * pw b := by
  unfold pw
  rw [show (b + 1).toNat - 1 = (b.toNat - 1) + 1 by omega, Int.pow_succ]; omega
theorem pw_one : pw 1 = 1 := by decide

theorem i64_not_any (x : Int) (h : In64 x) : bits .xor .i64 (-1) x = -1 - x := by
  obtain ⟨h0, h1⟩ := h
  show IntKind.i64.wrap ((BitVec.ofInt 64 (-1) ^^^ BitVec.ofInt 64 x).toNat : Int) = _
  have h1' : BitVec.ofInt 64 (-1) = BitVec.allOnes 64 := by decide
  rw [h1', BitVec.allOnes_xor, BitVec.toNat_not, BitVec.toNat_ofInt, IntKind.wrap_i64]
  omega

theorem in_of_wf {x : Int} (h : (Lit.int .i64 x).wf = true) : In64 x := by
  simp [Lit.wf, IntKind.min, IntKind.max, IntKind.signed, IntKind.bits] at h
  exact ⟨by omega, by omega⟩

theorem hide {p : Prop} (h : p) : Hid p := h
theorem unhide {p : Prop} (h : Hid p) : p := h
theorem w64_in {n : Int} (h : In64 n) : wrap64 n = n := by obtain ⟨h0, h1⟩ := h; unfold wrap64; omega

theorem i64_mask (n m : Int) (k : Nat) (hk : k ≤ 62) (hm : (BitVec.ofInt 64 m).toNat = 2 ^ k - 1) : bits .and .i64 n m = n % 2 ^ k := by
  have key : (BitVec.ofInt 64 n &&& BitVec.ofInt 64 m).toNat = (n % ((2 ^ 64 : Nat) : Int)).toNat % 2 ^ k := by
    rw [BitVec.toNat_and, BitVec.toNat_ofInt, hm, Nat.and_two_pow_sub_one_eq_mod]
  show IntKind.i64.wrap ((BitVec.ofInt 64 n &&& BitVec.ofInt 64 m).toNat : Nat) = n % 2 ^ k
  rw [key, IntKind.wrap_i64]
  have h0 : 0 ≤ n % ((2 ^ 64 : Nat) : Int) := Int.emod_nonneg _ (by decide)
  have h1 : ((((n % ((2 ^ 64 : Nat) : Int)).toNat % 2 ^ k : Nat)) : Int) = n % 2 ^ k := by
    rw [Int.natCast_emod, Int.toNat_of_nonneg h0]
    have hd : ((2 ^ k : Nat) : Int) ∣ ((2 ^ 64 : Nat) : Int) := Int.natCast_dvd_natCast.2 (Nat.pow_dvd_pow 2 (by omega))
    rw [Int.emod_emod_of_dvd n hd]
    simp
  rw [h1]
  have h2 : (2 : Int) ^ k ≤ 2 ^ 62 := two_pow_le k 62 hk
  have h3 : (0 : Int) < 2 ^ k := Int.pow_pos (by decide)
  have h4 := Int.emod_nonneg n (b := 2 ^ k) (by omega)
  have h5 := Int.emod_lt_of_pos n h3
  generalize n % 2 ^ k = r at *
  generalize (2 : Int) ^ k = q at *
  have h6 : (2 : Int) ^ 62 = 4611686018427387904 := by decide
  omega
theorem i64_and63 (n : Int) : bits .and .i64 n 63 = n % 64 := i64_mask n 63 6 (by decide) (by decide)
theorem i64_and_low32 (n : Int) : bits .and .i64 n 4294967295 = n % 4294967296 := i64_mask n 4294967295 32 (by decide) (by decide)

end Go.Proofs.Ytofmkhjdnmgdlaa
