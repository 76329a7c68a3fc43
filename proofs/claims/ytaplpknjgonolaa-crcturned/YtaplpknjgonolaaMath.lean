/- The sum of a text as numbers without bound: a step, its linearity, what a row of bytes is as one number, and why turned bits are found. No Go text here. -/
import Derived.WalkKit
namespace Go.Proofs.Ytaplpknjgonolaa
open Go.RowKit
set_option linter.unusedVariables false

def polyN : Nat := 3988292384
def onesN : Nat := 4294967295
/-- A bit goes through. -/
def stepN (r : Nat) : Nat := if r % 2 = 1 then r / 2 ^^^ 3988292384 else r / 2
/-- n bits that are 0 go through. -/
def goN : Nat → Nat → Nat
  | 0, r => r
  | n + 1, r => goN n (stepN r)
/-- A row of bytes goes through. -/
def feedN : Nat → List UInt8 → Nat
  | r, [] => r
  | r, b :: l => feedN (goN 8 (r ^^^ b.toNat)) l
/-- The sum. -/
def sumN (l : List UInt8) : Nat := feedN 4294967295 l ^^^ 4294967295
/-- A number in four bytes, the lowest one first. -/
def le4 (n : Nat) : List UInt8 := [UInt8.ofNat n, UInt8.ofNat (n / 256), UInt8.ofNat (n / 65536), UInt8.ofNat (n / 16777216)]
def sealL (l : List UInt8) : List UInt8 := l ++ le4 (sumN l)
/-- A row of bytes as one number, the first one lowest. -/
def numN : List UInt8 → Nat
  | [] => 0
  | b :: l => b.toNat ^^^ (numN l <<< 8)

theorem half_xor (a b : Nat) : (a ^^^ b) / 2 = a / 2 ^^^ b / 2 := by
  have h := Nat.shiftRight_xor_distrib (a := a) (b := b) (i := 1)
  simpa [Nat.shiftRight_succ] using h
theorem odd_xor (a b : Nat) : (a ^^^ b) % 2 = (a % 2 + b % 2) % 2 := by
  have h := Nat.xor_mod_two_pow (a := a) (b := b) (n := 1)
  rw [Nat.pow_one] at h
  rw [h]
  rcases Nat.mod_two_eq_zero_or_one a with h1 | h1 <;> rcases Nat.mod_two_eq_zero_or_one b with h2 | h2 <;> rw [h1, h2] <;> rfl
theorem xor_swap (a b c d : Nat) : (a ^^^ b) ^^^ (c ^^^ d) = (a ^^^ c) ^^^ (b ^^^ d) := by
  rw [Nat.xor_assoc, Nat.xor_assoc, ← Nat.xor_assoc b c d, Nat.xor_comm b c, Nat.xor_assoc]
theorem step_xor (a b : Nat) : stepN (a ^^^ b) = stepN a ^^^ stepN b := by
  unfold stepN
  rw [odd_xor, half_xor]
  rcases Nat.mod_two_eq_zero_or_one a with h1 | h1 <;> rcases Nat.mod_two_eq_zero_or_one b with h2 | h2 <;> simp only [h1, h2]
  · rfl
  · simp [Nat.xor_assoc]
  · simp [Nat.xor_assoc, Nat.xor_comm 3988292384]
  · show a / 2 ^^^ b / 2 = (a / 2 ^^^ 3988292384) ^^^ (b / 2 ^^^ 3988292384)
    rw [xor_swap, Nat.xor_self, Nat.xor_zero]
theorem step_double (r : Nat) : stepN (2 * r) = r := by
  unfold stepN
  rw [if_neg (by omega)]
  omega
theorem go_xor (n : Nat) : ∀ a b, goN n (a ^^^ b) = goN n a ^^^ goN n b := by
  induction n with
  | zero => intro a b; rfl
  | succ n ih => intro a b; show goN n (stepN (a ^^^ b)) = _; rw [step_xor, ih]; rfl
theorem go_add (m n : Nat) : ∀ a, goN (m + n) a = goN n (goN m a) := by
  induction m with
  | zero => intro a; rw [Nat.zero_add]; rfl
  | succ m ih => intro a; rw [Nat.succ_add]; show goN (m + n) (stepN a) = _; rw [ih]; rfl
theorem go_up (n r : Nat) : goN n (r <<< n) = r := by
  induction n with
  | zero => rfl
  | succ n ih =>
    show goN n (stepN (r <<< (n + 1))) = r
    rw [show r <<< (n + 1) = 2 * (r <<< n) by rw [Nat.shiftLeft_succ], step_double, ih]
theorem feed_cons (r : Nat) (b : UInt8) (l : List UInt8) : feedN r (b :: l) = feedN (goN 8 (r ^^^ b.toNat)) l := rfl
theorem num_cons (b : UInt8) (l : List UInt8) : numN (b :: l) = b.toNat ^^^ (numN l <<< 8) := rfl
theorem feed_num (l : List UInt8) : ∀ r, feedN r l = goN (8 * l.length) (r ^^^ numN l) := by
  induction l with
  | nil => intro r; rw [List.length_nil, Nat.mul_zero]; show r = r ^^^ 0; rw [Nat.xor_zero]
  | cons b l ih =>
    intro r
    rw [feed_cons, num_cons, List.length_cons, ih, show 8 * (l.length + 1) = 8 + 8 * l.length by omega, go_add, ← Nat.xor_assoc, go_xor 8 (r ^^^ b.toNat), go_up]
theorem feed_append (l m : List UInt8) : ∀ r, feedN r (l ++ m) = feedN (feedN r l) m := by
  induction l with
  | nil => intro r; rfl
  | cons b l ih => intro r; exact ih _
theorem step_lt (r : Nat) (h : r < 4294967296) : stepN r < 4294967296 := by
  unfold stepN
  split
  · exact Nat.xor_lt_two_pow (n := 32) (by omega) (by decide)
  · omega
theorem go_lt (n : Nat) : ∀ r, r < 4294967296 → goN n r < 4294967296 := by
  induction n with
  | zero => intro r h; exact h
  | succ n ih => intro r h; exact ih _ (step_lt r h)
theorem byte_lt (b : UInt8) : b.toNat < 256 := UInt8.toNat_lt b
theorem feed_lt (l : List UInt8) : ∀ r, r < 4294967296 → feedN r l < 4294967296 := by
  induction l with
  | nil => intro r h; exact h
  | cons b l ih => intro r h; exact ih _ (go_lt 8 _ (Nat.xor_lt_two_pow (n := 32) h (by have := byte_lt b; omega)))
theorem sum_lt (l : List UInt8) : sumN l < 4294967296 := Nat.xor_lt_two_pow (n := 32) (feed_lt l _ (by decide)) (by decide)

/-- Nothing but nothing is lost. -/
theorem step_zero (r : Nat) (h : r < 4294967296) (h0 : stepN r = 0) : r = 0 := by
  unfold stepN at h0
  split at h0
  · have e : r / 2 = 3988292384 := by
      have e1 : (r / 2 ^^^ 3988292384) ^^^ 3988292384 = 0 ^^^ 3988292384 := by rw [h0]
      rwa [Nat.xor_assoc, Nat.xor_self, Nat.xor_zero, Nat.zero_xor] at e1
    omega
  · omega
theorem go_zero (n : Nat) : ∀ r, r < 4294967296 → goN n r = 0 → r = 0 := by
  induction n with
  | zero => intro r _ h; exact h
  | succ n ih => intro r h h0; exact step_zero r h (ih _ (step_lt r h) h0)

theorem num_four (n : Nat) (h : n < 4294967296) : numN (le4 n) = n := by
  have e : numN (le4 n) = n % 256 ^^^ (((n / 256 % 256) ^^^ (((n / 65536 % 256) ^^^ ((n / 16777216 % 256) <<< 8)) <<< 8)) <<< 8) := by
    simp [numN, le4]
  have hx : ∀ a b : Nat, a < 256 → a ^^^ (b <<< 8) = a + 256 * b := by
    intro a b ha
    have h1 := Nat.two_pow_add_eq_or_of_lt (i := 8) (b := a) ha b
    have h2 : a ^^^ (b <<< 8) = 2 ^ 8 * b ||| a := by
      apply Nat.eq_of_testBit_eq
      intro i
      rw [Nat.testBit_xor, Nat.testBit_or, Nat.testBit_shiftLeft, Nat.testBit_two_pow_mul]
      by_cases hi : 8 ≤ i
      · have : a.testBit i = false := Nat.testBit_lt_two_pow (Nat.lt_of_lt_of_le ha (Nat.pow_le_pow_right (by decide) hi : 2 ^ 8 ≤ 2 ^ i))
        simp [this, hi]
      · simp [hi]
    rw [h2, ← h1]
    omega
  rw [e, hx _ _ (by omega), hx _ _ (by omega), hx _ _ (by omega)]
  omega
/-- The register behind a sealed text is the same at each. -/
theorem feed_seal (l : List UInt8) : feedN 4294967295 (sealL l) = goN 32 4294967295 := by
  unfold sealL
  rw [feed_append, feed_num (le4 _), num_four _ (sum_lt l)]
  unfold sumN
  rw [← Nat.xor_assoc, Nat.xor_self, Nat.zero_xor]
  rfl
theorem num_append (l m : List UInt8) : numN (l ++ m) = numN l ^^^ (numN m <<< (8 * l.length)) := by
  induction l with
  | nil => simp [numN]
  | cons b l ih =>
    show b.toNat ^^^ (numN (l ++ m) <<< 8) = (b.toNat ^^^ (numN l <<< 8)) ^^^ (numN m <<< (8 * (l.length + 1)))
    rw [ih, Nat.shiftLeft_xor_distrib, ← Nat.shiftLeft_add, Nat.xor_assoc]
    rfl
/-- A byte is turned. -/
theorem num_set (l : List UInt8) : ∀ (j : Nat) (b : UInt8) (hj : j < l.length), numN (l.set j (l[j] ^^^ b)) = numN l ^^^ (b.toNat <<< (8 * j)) := by
  induction l with
  | nil => intro j b hj; simp at hj
  | cons c l ih =>
    intro j b hj
    cases j with
    | zero =>
      show (c ^^^ b).toNat ^^^ (numN l <<< 8) = (c.toNat ^^^ (numN l <<< 8)) ^^^ (b.toNat <<< 0)
      rw [UInt8.toNat_xor, Nat.shiftLeft_zero, Nat.xor_assoc, Nat.xor_assoc, Nat.xor_comm b.toNat]
    | succ j =>
      have hj' : j < l.length := by simpa using hj
      show c.toNat ^^^ (numN (l.set j (l[j] ^^^ b)) <<< 8) = (c.toNat ^^^ (numN l <<< 8)) ^^^ (b.toNat <<< (8 * (j + 1)))
      rw [ih j b hj', Nat.shiftLeft_xor_distrib, ← Nat.shiftLeft_add, Nat.xor_assoc]
      rfl
/-- What is turned within 32 bits is found. -/
theorem burst_found (l f m : List UInt8) (at_ wd : Nat) (hf : f.length = (sealL l).length) (hn : numN f = numN (sealL l) ^^^ (wd <<< at_)) (hw : wd < 4294967296) (h0 : wd ≠ 0) (ha : at_ < 8 * f.length) : sealL m ≠ f := by
  intro e
  have h1 := feed_seal m
  have h2 := feed_seal l
  rw [e, feed_num, hn, ← Nat.xor_assoc, go_xor, hf, ← feed_num, h2] at h1
  have h3 : goN (8 * (sealL l).length) (wd <<< at_) = 0 := by
    have h4 : goN 32 4294967295 ^^^ (goN 32 4294967295 ^^^ goN (8 * (sealL l).length) (wd <<< at_)) = goN 32 4294967295 ^^^ goN 32 4294967295 := by rw [h1]
    rwa [← Nat.xor_assoc, Nat.xor_self, Nat.zero_xor] at h4
  rw [← hf, show 8 * f.length = at_ + (8 * f.length - at_) by omega, go_add, go_up] at h3
  exact h0 (go_zero _ _ hw h3)

/-- Three rows turned by one another. -/
theorem feed_xor : ∀ (a b : List UInt8) (r s : Nat), a.length = b.length → feedN (r ^^^ s) (List.zipWith (· ^^^ ·) a b) = feedN r a ^^^ feedN s b
  | [], [], r, s, _ => rfl
  | [], _ :: _, _, _, h => by simp at h
  | _ :: _, [], _, _, h => by simp at h
  | x :: a, y :: b, r, s, h => by
    show feedN (goN 8 ((r ^^^ s) ^^^ (x ^^^ y).toNat)) (List.zipWith (· ^^^ ·) a b) = feedN (goN 8 (r ^^^ x.toNat)) a ^^^ feedN (goN 8 (s ^^^ y.toNat)) b
    rw [UInt8.toNat_xor, xor_swap, go_xor, feed_xor a b _ _ (by simpa using h)]
theorem sum_three (a b c : List UInt8) (h1 : a.length = b.length) (h2 : a.length = c.length) :
    sumN (List.zipWith (· ^^^ ·) (List.zipWith (· ^^^ ·) a b) c) = (sumN a ^^^ sumN b) ^^^ sumN c := by
  unfold sumN
  have e : (4294967295 : Nat) = (4294967295 ^^^ 4294967295) ^^^ 4294967295 := by decide
  have h3 : feedN 4294967295 (List.zipWith (· ^^^ ·) (List.zipWith (· ^^^ ·) a b) c) = (feedN 4294967295 a ^^^ feedN 4294967295 b) ^^^ feedN 4294967295 c := by
    rw [← feed_xor a b _ _ h1, ← feed_xor _ c _ _ (by simp; omega)]
    rfl
  rw [h3]
  rw [xor_swap (feedN _ a) _ (feedN _ b), Nat.xor_self, Nat.xor_zero, ← Nat.xor_assoc]
theorem sum_awake : sumN [49, 50, 51, 52, 53, 54, 55, 56, 57] = 3421780262 := by decide +kernel
end Go.Proofs.Ytaplpknjgonolaa
