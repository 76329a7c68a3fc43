/- Spins as lists of numbers: turned, added, weighed. -/
import Derived.Test.YtcnpbkgnoeoccaaDoorBase
namespace Go.Proofs.YtcnpbkgnoeoccaaDoor
open Go.RowKit
set_option linter.unusedVariables false

def mkL (n : Nat) (f : Nat → Int) : List Int := (List.range n).map f
theorem mkL_len (n : Nat) (f : Nat → Int) : (mkL n f).length = n := by simp [mkL]
theorem mkL_at (n : Nat) (f : Nat → Int) (i : Nat) (h : i < n) : (mkL n f).getD i 0 = f i := by simp [mkL, List.getD_eq_getElem?_getD, h]
theorem getD_over (L : List Int) (i : Nat) (h : L.length ≤ i) : L.getD i 0 = 0 := by simp [List.getD_eq_getElem?_getD, List.getElem?_eq_none h]
theorem list_same {L M : List Int} (h : L.length = M.length) (hi : ∀ i, i < L.length → L.getD i 0 = M.getD i 0) : L = M := by
  apply List.ext_getElem h
  intro i h1 h2
  have := hi i h1
  simpa [List.getD_eq_getElem?_getD, List.getElem?_eq_getElem h1, List.getElem?_eq_getElem h2] using this
theorem mkL_eq (L : List Int) (n : Nat) (f : Nat → Int) (hn : L.length = n) (h : ∀ i, i < n → f i = L.getD i 0) : mkL n f = L :=
  list_same (by rw [mkL_len, hn]) fun i hi => by rw [mkL_len] at hi; rw [mkL_at n f i hi, h i hi]
theorem mkL_congr (n : Nat) (f g : Nat → Int) (h : ∀ i, i < n → f i = g i) : mkL n f = mkL n g :=
  list_same (by rw [mkL_len, mkL_len]) fun i hi => by rw [mkL_len] at hi; rw [mkL_at n f i hi, mkL_at n g i hi, h i hi]
theorem small_mk (n : Nat) (f : Nat → Int) (h : ∀ i, i < n → In64 (f i)) : Small (mkL n f) := by
  intro x hx
  obtain ⟨i, hi, rfl⟩ := List.mem_map.1 hx
  exact h i (by simpa using hi)
theorem Small.all {xs : List Int} (h : Small xs) (k : Nat) : In64 (xs.getD k 0) := by
  by_cases c : k < xs.length
  · exact h.at k c
  · rw [getD_over xs k (by omega)]; constructor <;> decide

theorem in_w64 (n : Int) : In64 (wrap64 n) := by unfold wrap64 In64; omega
def neg64 (x : Int) : Int := wrap64 (-x)
theorem neg_neg64 (x : Int) (h : In64 x) : neg64 (neg64 x) = x := by obtain ⟨h1, h2⟩ := h; unfold neg64 wrap64; omega
theorem neg_in (x : Int) : In64 (neg64 x) := in_w64 _
theorem w64_zero : wrap64 0 = 0 := by decide +kernel

/-- The numbers of a spin, and on beyond its ends: with the sign turned, round and round. -/
def ext (xs : List Int) (m : Int) : Int :=
  if m % (2 * (xs.length : Int)) < xs.length then xs.getD (m % (2 * (xs.length : Int))).toNat 0 else neg64 (xs.getD ((m % (2 * (xs.length : Int))).toNat - xs.length) 0)
def turnL (xs : List Int) (k : Int) : List Int := mkL xs.length fun i => ext xs ((i : Int) - k)
theorem turn_len (xs : List Int) (k : Int) : (turnL xs k).length = xs.length := mkL_len _ _
theorem ext_in (xs : List Int) (m : Int) (h : Small xs) : In64 (ext xs m) := by
  unfold ext; split
  · exact h.all _
  · exact neg_in _
theorem turn_small (xs : List Int) (k : Int) (h : Small xs) : Small (turnL xs k) := small_mk _ _ fun i _ => ext_in _ _ h
theorem ext_of (xs : List Int) (m : Int) (r : Nat) (h : m % (2 * (xs.length : Int)) = r) : ext xs m = if r < xs.length then xs.getD r 0 else neg64 (xs.getD (r - xs.length) 0) := by
  unfold ext; rw [h]
  by_cases c : r < xs.length
  · rw [if_pos c, if_pos (by omega)]; simp
  · rw [if_neg c, if_neg (by omega)]; simp
theorem mod_of {m n : Int} (r : Int) (q : Int) (h : m = r + n * q) (h0 : 0 ≤ r) (h1 : r < n) : m % n = r := by
  subst h; rw [Int.add_mul_emod_self_left]; exact Int.emod_eq_of_lt h0 h1
theorem ext_at (xs : List Int) (i : Nat) (h : i < xs.length) : ext xs i = xs.getD i 0 := by
  rw [ext_of xs i i (Int.emod_eq_of_lt (by omega) (by omega)), if_pos h]
theorem ext_congr (xs : List Int) (m n : Int) (h : m % (2 * (xs.length : Int)) = n % (2 * (xs.length : Int))) : ext xs m = ext xs n := by unfold ext; rw [h]
theorem ext_half (xs : List Int) (m : Int) (h : Small xs) (h0 : 0 < xs.length) : ext xs (m + xs.length) = neg64 (ext xs m) := by
  obtain ⟨r, hr⟩ : ∃ r : Nat, m % (2 * (xs.length : Int)) = r := ⟨(m % (2 * (xs.length : Int))).toNat, by have := Int.emod_nonneg m (b := 2 * (xs.length : Int)) (by omega); omega⟩
  have hlt : r < 2 * xs.length := by have := Int.emod_lt_of_pos m (b := 2 * (xs.length : Int)) (by omega); omega
  have hm := Int.mul_ediv_add_emod m (2 * (xs.length : Int))
  rw [hr] at hm
  rw [ext_of xs m r hr]
  by_cases c : r < xs.length
  · rw [ext_of xs (m + xs.length) (r + xs.length) (mod_of _ (m / (2 * (xs.length : Int))) (by omega) (by omega) (by omega)), if_neg (by omega), if_pos c]
    simp
  · rw [ext_of xs (m + xs.length) (r - xs.length) (mod_of _ (m / (2 * (xs.length : Int)) + 1) (by rw [Int.mul_add]; omega) (by omega) (by omega)), if_pos (by omega), if_neg c, neg_neg64 _ (h.all _)]
theorem ext_turn (xs : List Int) (a m : Int) (h : Small xs) (h0 : 0 < xs.length) : ext (turnL xs a) m = ext xs (m - a) := by
  obtain ⟨r, hr⟩ : ∃ r : Nat, m % (2 * (xs.length : Int)) = r := ⟨(m % (2 * (xs.length : Int))).toNat, by have := Int.emod_nonneg m (b := 2 * (xs.length : Int)) (by omega); omega⟩
  have hlt : r < 2 * xs.length := by have := Int.emod_lt_of_pos m (b := 2 * (xs.length : Int)) (by omega); omega
  have hm : (m - a) % (2 * (xs.length : Int)) = ((r : Int) - a) % (2 * (xs.length : Int)) := by
    rw [← hr]; exact (Int.emod_sub_cancel_right a).2 (Int.emod_emod _ _).symm
  rw [ext_of (turnL xs a) m r (by rw [turn_len]; exact hr), turn_len]
  by_cases c : r < xs.length
  · rw [if_pos c]; unfold turnL; rw [mkL_at _ _ _ c]; exact (ext_congr xs _ _ hm).symm
  · rw [if_neg c]; unfold turnL; rw [mkL_at _ _ _ (by omega), ← ext_half xs _ h h0, ext_congr xs _ _ hm]; congr 1; omega
theorem turn_turn (xs : List Int) (a b : Int) (h : Small xs) : turnL (turnL xs a) b = turnL xs (a + b) := by
  by_cases h0 : 0 < xs.length
  · show mkL (turnL xs a).length _ = _
    rw [turn_len]
    refine mkL_congr _ _ _ fun i _ => ?_
    rw [ext_turn xs a _ h h0]; congr 1; omega
  · have : xs = [] := List.length_eq_zero_iff.1 (by omega)
    subst this; rfl
theorem turn_zero (xs : List Int) : turnL xs 0 = xs := mkL_eq _ _ _ rfl fun i hi => by rw [Int.sub_zero, ext_at xs i hi]
theorem turn_two (xs : List Int) (n : Nat) (hn : xs.length = n) : turnL xs (2 * (n : Int)) = xs := mkL_eq _ _ _ rfl fun i hi => by
  rw [← ext_at xs i hi]; apply ext_congr; rw [hn, Int.sub_emod_right]
theorem turn_half (xs : List Int) (n : Nat) (hn : xs.length = n) (h : Small xs) : turnL xs (n : Int) = mkL n fun i => neg64 (xs.getD i 0) := by
  unfold turnL
  rw [hn]
  refine mkL_congr _ _ _ fun i hi => ?_
  have e := ext_half xs ((i : Int) - n) h (by omega)
  rw [hn, show (i : Int) - n + n = i by omega, ext_at xs i (by omega)] at e
  rw [e, neg_neg64 _ (ext_in _ _ h)]

/-- Where number t goes, and with which sign. -/
def plc (h R t : Nat) : Nat := if t + R < h then t + R else if t + R < 2 * h then t + R - h else t + R - 2 * h
def vlu (xs : List Int) (R t : Nat) : Int := if t + R < xs.length then xs.getD t 0 else if t + R < 2 * xs.length then neg64 (xs.getD t 0) else xs.getD t 0
theorem plc_lt (h R t : Nat) (hR : R < 2 * h) (ht : t < h) : plc h R t < h := by
  unfold plc
  repeat' split
  all_goals omega
theorem plc_ne (h R t u : Nat) (hR : R < 2 * h) (ht : t < h) (hu : u < h) (hne : t ≠ u) : plc h R t ≠ plc h R u := by
  unfold plc
  repeat' split
  all_goals omega
theorem placed (xs L : List Int) (k : Int) (n R : Nat) (hn : xs.length = n) (hR : k % (2 * (n : Int)) = R) (hlt : R < 2 * n) (hl : L.length = n) (h : ∀ t, t < n → L.getD (plc n R t) 0 = vlu xs R t) : L = turnL xs k := by
  refine list_same (by rw [turn_len, hn, hl]) fun i hi => ?_
  rw [hl] at hi
  unfold turnL
  rw [hn, mkL_at _ _ _ hi]
  have hm : ((i : Int) - k) % (2 * (n : Int)) = ((i : Int) - R) % (2 * (n : Int)) := by
    rw [← hR, Int.sub_emod, Int.sub_emod (i : Int) (k % _), Int.emod_emod]
  by_cases c1 : R ≤ i
  · have := h (i - R) (by omega)
    rw [show plc n R (i - R) = i by unfold plc; rw [if_pos (by omega)]; omega] at this
    rw [this, ext_of xs _ (i - R) (by rw [hn, hm]; exact mod_of _ 0 (by omega) (by omega) (by omega)), if_pos (by omega)]
    unfold vlu; rw [if_pos (by omega)]
  · by_cases c2 : R ≤ i + n
    · have := h (i + n - R) (by omega)
      rw [show plc n R (i + n - R) = i by unfold plc; rw [if_neg (by omega), if_pos (by omega)]; omega] at this
      rw [this, ext_of xs _ (i + 2 * n - R) (by rw [hn, hm]; exact mod_of _ (-1) (by omega) (by omega) (by omega)), if_neg (by omega)]
      unfold vlu; rw [if_neg (by omega), if_pos (by omega), show i + 2 * n - R - xs.length = i + n - R by omega]
    · have := h (i + 2 * n - R) (by omega)
      rw [show plc n R (i + 2 * n - R) = i by unfold plc; rw [if_neg (by omega), if_neg (by omega)]; omega] at this
      rw [this, ext_of xs _ (i + 2 * n - R) (by rw [hn, hm]; exact mod_of _ (-1) (by omega) (by omega) (by omega)), if_pos (by omega)]
      unfold vlu; rw [if_neg (by omega), if_neg (by omega)]

def add2 (xs ys : List Int) : List Int := mkL xs.length fun i => wrap64 (xs.getD i 0 + ys.getD i 0)
def sub2 (xs ys : List Int) : List Int := mkL xs.length fun i => wrap64 (xs.getD i 0 - ys.getD i 0)
theorem add2_len (xs ys : List Int) : (add2 xs ys).length = xs.length := mkL_len _ _
theorem add2_small (xs ys : List Int) : Small (add2 xs ys) := small_mk _ _ fun _ _ => in_w64 _
theorem add2_at (xs ys : List Int) (i : Nat) (h : i < xs.length) : (add2 xs ys).getD i 0 = wrap64 (xs.getD i 0 + ys.getD i 0) := mkL_at _ _ _ h
theorem zero_at (n i : Nat) : (List.replicate n (0 : Int)).getD i 0 = 0 := by
  rw [List.getD_eq_getElem?_getD, List.getElem?_replicate]; split <;> rfl
theorem add2_zero (n : Nat) (xs : List Int) (hn : xs.length = n) (h : Small xs) : add2 (List.replicate n 0) xs = xs :=
  mkL_eq _ _ _ (by simp [hn]) fun i hi => by rw [zero_at, Int.zero_add, w64_in (h.all i)]
theorem add2_comm (xs ys : List Int) (h : xs.length = ys.length) : add2 xs ys = add2 ys xs := by
  unfold add2; rw [h]; exact mkL_congr _ _ _ fun i _ => by rw [Int.add_comm]
theorem ext_add (xs ys : List Int) (m : Int) (h : xs.length = ys.length) (h0 : 0 < xs.length) : ext (add2 xs ys) m = wrap64 (ext xs m + ext ys m) := by
  obtain ⟨r, hr⟩ : ∃ r : Nat, m % (2 * (xs.length : Int)) = r := ⟨(m % (2 * (xs.length : Int))).toNat, by have := Int.emod_nonneg m (b := 2 * (xs.length : Int)) (by omega); omega⟩
  have hlt : r < 2 * xs.length := by have := Int.emod_lt_of_pos m (b := 2 * (xs.length : Int)) (by omega); omega
  rw [ext_of xs m r hr, ext_of ys m r (by rw [← h]; exact hr), ext_of _ m r (by rw [add2_len]; exact hr), add2_len, ← h]
  by_cases c : r < xs.length
  · rw [if_pos c, if_pos c, if_pos c, add2_at _ _ _ c]
  · rw [if_neg c, if_neg c, if_neg c, add2_at _ _ _ (by omega)]
    unfold neg64 wrap64; omega
theorem turn_add (xs ys : List Int) (k : Int) (h : xs.length = ys.length) : turnL (add2 xs ys) k = add2 (turnL xs k) (turnL ys k) := by
  refine list_same (by rw [turn_len, add2_len, add2_len, turn_len]) fun i hi => ?_
  rw [turn_len, add2_len] at hi
  rw [add2_at _ _ _ (by rw [turn_len]; exact hi)]
  unfold turnL
  rw [add2_len, mkL_at _ _ _ hi, mkL_at _ _ _ hi, mkL_at _ _ _ (by omega), ext_add xs ys _ h (by omega)]
def lessL (xs ys : List Int) : List Int := add2 xs (turnL ys (ys.length : Int))
theorem less_len (xs ys : List Int) : (lessL xs ys).length = xs.length := add2_len _ _
theorem less_at (xs ys : List Int) (i : Nat) (h : xs.length = ys.length) (hi : i < xs.length) (hs : Small ys) : (lessL xs ys).getD i 0 = wrap64 (xs.getD i 0 - ys.getD i 0) := by
  unfold lessL
  rw [add2_at _ _ _ hi, turn_half ys ys.length rfl hs, mkL_at _ _ _ (by omega)]
  unfold neg64 wrap64; omega
theorem less_sub (xs ys : List Int) (h : xs.length = ys.length) (hs : Small ys) : lessL xs ys = sub2 xs ys :=
  list_same (by rw [less_len]; exact (mkL_len _ _).symm) fun i hi => by
    rw [less_len] at hi; rw [less_at xs ys i h hi hs]; unfold sub2; rw [mkL_at _ _ _ hi]
theorem turn_less (xs ys : List Int) (k : Int) (h : xs.length = ys.length) (hs : Small ys) : turnL (lessL xs ys) k = lessL (turnL xs k) (turnL ys k) := by
  unfold lessL
  rw [turn_add _ _ _ (by rw [turn_len]; exact h), turn_turn _ _ _ hs, turn_turn _ _ _ hs, turn_len, Int.add_comm]
theorem add_four (xs ys : List Int) (h : xs.length = ys.length) (hs : Small ys) : add2 (add2 xs ys) (lessL xs ys) = add2 xs xs := by
  refine list_same (by rw [add2_len, add2_len, add2_len]) fun i hi => ?_
  rw [add2_len, add2_len] at hi
  rw [add2_at _ _ _ (by rw [add2_len]; exact hi), add2_at _ _ _ hi, add2_at _ _ _ hi, less_at xs ys i h hi hs]
  unfold wrap64; omega
theorem add_signs (xs : List Int) (n : Nat) (hn : xs.length = n) (hs : Small xs) : add2 (turnL xs (n : Int)) xs = List.replicate n 0 := by
  rw [turn_half xs n hn hs]
  refine list_same (by rw [add2_len, mkL_len]; simp) fun i hi => ?_
  rw [add2_len, mkL_len] at hi
  rw [add2_at _ _ _ (by rw [mkL_len]; exact hi), mkL_at _ _ _ hi, zero_at]
  have := hs.all i
  unfold In64 at this
  unfold neg64 wrap64; omega

/-- The sum of rows, one behind the other. -/
def addAll (n : Nat) (rows : List (List Int)) : List Int := rows.foldl add2 (List.replicate n 0)
theorem addAll_len (n : Nat) : ∀ (rows : List (List Int)), (addAll n rows).length = n := by
  intro rows
  have : ∀ (rows : List (List Int)) (l : List Int), (rows.foldl add2 l).length = l.length := by
    intro rows
    induction rows with
    | nil => intro l; rfl
    | cons r rs ih => intro l; rw [List.foldl_cons, ih, add2_len]
  unfold addAll; rw [this]; simp
theorem addAll_succ (n : Nat) (rows : List (List Int)) (k : Nat) (h : k < rows.length) : addAll n (rows.take (k + 1)) = add2 (addAll n (rows.take k)) (rows.getD k []) := by
  unfold addAll
  rw [List.take_succ_eq_append_getElem h, List.foldl_append]
  simp [List.getD_eq_getElem?_getD, List.getElem?_eq_getElem h]
theorem addAll_small (n : Nat) (rows : List (List Int)) : Small (addAll n rows) := by
  unfold addAll
  have : ∀ (rows : List (List Int)) (l : List Int), Small l → Small (rows.foldl add2 l) := by
    intro rows
    induction rows with
    | nil => intro l h; exact h
    | cons r rs ih => intro l h; rw [List.foldl_cons]; exact ih _ (add2_small _ _)
  exact this rows _ (by intro x hx; have := List.eq_of_mem_replicate hx; subst this; constructor <;> decide)

/-- Sums of so many. -/
def sumF (f : Nat → Int) : Nat → Int
  | 0 => 0
  | n + 1 => sumF f n + f n
theorem sumF_congr (f g : Nat → Int) : ∀ n, (∀ i, i < n → f i = g i) → sumF f n = sumF g n
  | 0, _ => rfl
  | n + 1, h => by show sumF f n + f n = sumF g n + g n; rw [sumF_congr f g n fun i hi => h i (by omega), h n (by omega)]
theorem sumF_add (f : Nat → Int) (m : Nat) : ∀ n, sumF f (m + n) = sumF f m + sumF (fun i => f (m + i)) n
  | 0 => by show sumF f m = sumF f m + 0; omega
  | n + 1 => by show sumF f (m + n) + f (m + n) = sumF f m + (sumF (fun i => f (m + i)) n + f (m + n)); rw [sumF_add f m n]; omega
theorem sumF_neg (f : Nat → Int) : ∀ n, sumF (fun i => -f i) n = -sumF f n
  | 0 => rfl
  | n + 1 => by show sumF (fun i => -f i) n + -f n = -(sumF f n + f n); rw [sumF_neg f n]; omega
theorem sumF_plus (f g : Nat → Int) : ∀ n, sumF (fun i => f i + g i) n = sumF f n + sumF g n
  | 0 => rfl
  | n + 1 => by show sumF (fun i => f i + g i) n + (f n + g n) = sumF f n + f n + (sumF g n + g n); rw [sumF_plus f g n]; omega
/-- Numbers that are the same at 64 bits. -/
def Cg (a b : Int) : Prop := ∃ t : Int, a = b + 18446744073709551616 * t
theorem cg_wrap {a b : Int} (h : Cg a b) : wrap64 a = wrap64 b := by obtain ⟨t, rfl⟩ := h; unfold wrap64; omega
theorem cg_of (a : Int) : Cg (wrap64 a) a := ⟨-((a + 9223372036854775808) / 18446744073709551616), by unfold wrap64; omega⟩
theorem Cg.mul {a b : Int} (h : Cg a b) (c : Int) : Cg (a * c) (b * c) := by
  obtain ⟨t, rfl⟩ := h; exact ⟨t * c, by rw [Int.add_mul, Int.mul_assoc]⟩
theorem Cg.plus {a b c d : Int} (h : Cg a b) (k : Cg c d) : Cg (a + c) (b + d) := by
  obtain ⟨t, rfl⟩ := h; obtain ⟨s, rfl⟩ := k; exact ⟨t + s, by omega⟩
theorem Cg.refl (a : Int) : Cg a a := ⟨0, by omega⟩
theorem Cg.trans {a b c : Int} (h : Cg a b) (k : Cg b c) : Cg a c := by
  obtain ⟨t, rfl⟩ := h; obtain ⟨s, rfl⟩ := k; exact ⟨t + s, by omega⟩
theorem cg_sum (f g : Nat → Int) : ∀ n, (∀ i, i < n → Cg (f i) (g i)) → Cg (sumF f n) (sumF g n)
  | 0, _ => Cg.refl _
  | n + 1, h => (cg_sum f g n fun i hi => h i (by omega)).plus (h n (by omega))

/-- A size that may be. -/
def mayN (n : Nat) : Prop := n = 1 ∨ n = 2 ∨ n = 4 ∨ n = 8 ∨ n = 16 ∨ n = 32
instance (n : Nat) : Decidable (mayN n) := by unfold mayN; infer_instance
/-- The sum of numbers, each weighed by its place. -/
def wgh (c : Nat → Int) (xs : List Int) (k : Nat) : Int := sumF (fun j => xs.getD j 0 * c (j * 32 / xs.length)) k
def cosC (q : Nat) : Int := cosI (q : Int)
def sinC (q : Nat) : Int := -sinI (q : Int)
def partI (c : Nat → Int) (xs : List Int) : Int := if mayN xs.length then wrap64 (wgh c xs xs.length) else 0
theorem wgh_add (c : Nat → Int) (xs ys : List Int) (h : xs.length = ys.length) (k : Nat) (hk : k ≤ xs.length) : Cg (wgh c (add2 xs ys) k) (wgh c xs k + wgh c ys k) := by
  unfold wgh
  rw [← sumF_plus, add2_len, ← h]
  refine cg_sum _ _ k fun i hi => ?_
  rw [add2_at _ _ _ (by omega)]
  have := (cg_of (xs.getD i 0 + ys.getD i 0)).mul (c (i * 32 / xs.length))
  rw [Int.add_mul] at this
  exact this
theorem part_add (c : Nat → Int) (xs ys : List Int) (h : xs.length = ys.length) : partI c (add2 xs ys) = wrap64 (partI c xs + partI c ys) := by
  unfold partI
  rw [add2_len, ← h]
  by_cases m : mayN xs.length
  · rw [if_pos m, if_pos m, if_pos m, cg_wrap (wgh_add c xs ys h _ (Nat.le_refl _))]; unfold wrap64; omega
  · rw [if_neg m, if_neg m, if_neg m]; decide +kernel
theorem part_neg (c : Nat → Int) (xs : List Int) (n : Nat) (hn : xs.length = n) (hs : Small xs) : partI c (turnL xs (n : Int)) = wrap64 (0 - partI c xs) := by
  unfold partI
  rw [turn_len, hn]
  by_cases m : mayN n
  · rw [if_pos m, if_pos m]
    have : Cg (wgh c (turnL xs (n : Int)) n) (-wgh c xs n) := by
      unfold wgh
      rw [← sumF_neg, turn_len, hn, turn_half xs n hn hs]
      refine cg_sum _ _ n fun i hi => ?_
      rw [mkL_at _ _ _ hi]
      have := (cg_of (-xs.getD i 0)).mul (c (i * 32 / n))
      rw [Int.neg_mul] at this
      exact this
    rw [cg_wrap this]; unfold wrap64; omega
  · rw [if_neg m, if_neg m]; decide +kernel
theorem part_less (c : Nat → Int) (xs ys : List Int) (h : xs.length = ys.length) (hs : Small ys) : partI c (lessL xs ys) = wrap64 (partI c xs - partI c ys) := by
  unfold lessL
  rw [part_add c xs _ (by rw [turn_len]; exact h), part_neg c ys _ rfl hs]
  unfold wrap64; omega
theorem part_in (c : Nat → Int) (xs : List Int) : In64 (partI c xs) := by
  unfold partI; split
  · exact in_w64 _
  · constructor <;> decide

/-- A quarter of a turn: cosines where the sines were. -/
theorem quarter_at (xs : List Int) (m : Nat) (hn : xs.length = 2 * m) (hs : Small xs) (h0 : 0 < m) : (∀ i, i < m → (turnL xs (m : Int)).getD (m + i) 0 = xs.getD i 0) ∧ ∀ i, i < m → (turnL xs (m : Int)).getD i 0 = neg64 (xs.getD (m + i) 0) := by
  refine ⟨fun i hi => ?_, fun i hi => ?_⟩
  · unfold turnL
    rw [hn, mkL_at _ _ _ (by omega), show ((m + i : Nat) : Int) - m = (i : Nat) by omega, ext_at xs i (by omega)]
  · unfold turnL
    rw [hn, mkL_at _ _ _ (by omega)]
    have e := ext_half xs ((i : Int) - m) hs (by omega)
    rw [hn, show (i : Int) - m + (2 * m : Nat) = ((m + i : Nat) : Int) by omega, ext_at xs (m + i) (by omega)] at e
    rw [e, neg_neg64 _ (ext_in _ _ hs)]
theorem part_quarter (c d : Nat → Int) (xs : List Int) (m : Nat) (hn : xs.length = 2 * m) (hs : Small xs) (h0 : 0 < m) (hm : mayN (2 * m))
    (h1 : ∀ i, i < m → c ((m + i) * 32 / (2 * m)) = d (i * 32 / (2 * m))) (h2 : ∀ i, i < m → -c (i * 32 / (2 * m)) = d ((m + i) * 32 / (2 * m))) : partI c (turnL xs (m : Int)) = partI d xs := by
  unfold partI
  rw [turn_len, hn, if_pos hm, if_pos hm]
  apply cg_wrap
  unfold wgh
  rw [turn_len, hn, show 2 * m = m + m by omega, sumF_add, sumF_add, Int.add_comm]
  obtain ⟨q1, q2⟩ := quarter_at xs m hn hs h0
  refine Cg.plus (cg_sum _ _ m fun i hi => ?_) (cg_sum _ _ m fun i hi => ?_)
  · rw [q1 i hi, show m + m = 2 * m by omega, h1 i hi]; exact Cg.refl _
  · rw [q2 i hi, show m + m = 2 * m by omega, ← h2 i hi]
    have := (cg_of (-xs.getD (m + i) 0)).mul (c (i * 32 / (2 * m)))
    rw [Int.neg_mul, ← Int.mul_neg] at this
    exact this
theorem quarter_real (xs : List Int) (m : Nat) (hn : xs.length = 2 * m) (hs : Small xs) (hm : mayN (2 * m)) : partI cosC (turnL xs (m : Int)) = partI sinC xs := by
  have hk : ∀ m, m < 17 → mayN (2 * m) → (∀ i, i < m → cosC ((m + i) * 32 / (2 * m)) = sinC (i * 32 / (2 * m))) ∧ (∀ i, i < m → -cosC (i * 32 / (2 * m)) = sinC ((m + i) * 32 / (2 * m))) := by decide +kernel
  have h17 : m < 17 := by unfold mayN at hm; omega
  exact part_quarter cosC sinC xs m hn hs (by unfold mayN at hm; omega) hm (hk m h17 hm).1 (hk m h17 hm).2
theorem quarter_imag (xs : List Int) (m : Nat) (hn : xs.length = 2 * m) (hs : Small xs) (hm : mayN (2 * m)) : partI sinC (turnL xs (m : Int)) = wrap64 (0 - partI cosC xs) := by
  have hk : ∀ m, m < 17 → mayN (2 * m) → (∀ i, i < m → sinC ((m + i) * 32 / (2 * m)) = -cosC (i * 32 / (2 * m))) ∧ (∀ i, i < m → -sinC (i * 32 / (2 * m)) = -cosC ((m + i) * 32 / (2 * m))) := by decide +kernel
  have h17 : m < 17 := by unfold mayN at hm; omega
  rw [part_quarter sinC (fun q => -cosC q) xs m hn hs (by unfold mayN at hm; omega) hm (hk m h17 hm).1 (hk m h17 hm).2]
  unfold partI
  rw [hn, if_pos hm, if_pos hm]
  have : wgh (fun q => -cosC q) xs (2 * m) = -wgh cosC xs (2 * m) := by
    unfold wgh; rw [← sumF_neg]; exact sumF_congr _ _ _ fun i _ => by rw [Int.mul_neg]
  rw [this]; unfold wrap64; omega
theorem part_one (x : Int) : partI cosC [x] = wrap64 (16384 * x) ∧ partI sinC [x] = 0 := by
  have h1 : cosC 0 = 16384 := by decide +kernel
  have h2 : sinC 0 = 0 := by decide +kernel
  have e : ∀ c : Nat → Int, partI c [x] = wrap64 (x * c 0) := by
    intro c
    unfold partI
    rw [if_pos (show mayN [x].length from .inl rfl)]
    have : wgh c [x] [x].length = x * c 0 := by
      simp [wgh, sumF]
    rw [this]
  rw [e, e, h1, h2, Int.mul_zero, Int.mul_comm]
  exact ⟨rfl, by decide +kernel⟩
end Go.Proofs.YtcnpbkgnoeoccaaDoor
