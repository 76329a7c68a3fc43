/- What is laid, and where. -/
import Derived.Test.YtclikkhaaiihdaaWake
namespace Go.Proofs.Ytclikkhaaiihdaa
set_option linter.unusedVariables false

theorem getD_set (L : List Int) (k i : Nat) (x : Int) : (L.set k x).getD i 0 = if k = i ∧ i < L.length then x else L.getD i 0 := by
  simp only [List.getD_eq_getElem?_getD, List.getElem?_set]
  by_cases h : k = i
  · subst h
    by_cases h2 : k < L.length
    · rw [if_pos rfl, if_pos h2, if_pos ⟨rfl, h2⟩]; rfl
    · rw [if_pos rfl, if_neg h2, if_neg (fun h => h2 h.2), List.getElem?_eq_none (by omega)]
  · rw [if_neg h, if_neg (fun h' => h h'.1)]
theorem layTo_getD (L : List Int) (k : Nat) (xs : List Int) (i : Nat) : ∀ j, (layTo L k xs j).getD i 0 = if k ≤ i ∧ i < k + j ∧ i < L.length then xs.getD (i - k) 0 else L.getD i 0
  | 0 => by rw [if_neg (by omega)]; rfl
  | j + 1 => by
    show ((layTo L k xs j).set (k + j) (xs.getD j 0)).getD i 0 = _
    rw [getD_set, layTo_len, layTo_getD L k xs i j]
    by_cases h1 : k + j = i ∧ i < L.length
    · rw [if_pos h1, if_pos (by omega), show i - k = j by omega]
    · rw [if_neg h1]
      by_cases h2 : k ≤ i ∧ i < k + j ∧ i < L.length
      · rw [if_pos h2, if_pos (by omega)]
      · rw [if_neg h2, if_neg (by omega)]
theorem at_nat (t R d : Nat) : (atI (t : Int) R (d : Int)).toNat = t % R * d := by
  unfold atI
  have : ((t : Int) % (R : Int) * (d : Int)) = ((t % R * d : Nat) : Int) := by simp
  rw [this, Int.toNat_natCast]
theorem slot_bd (m d R q : Nat) (hr : R * d ≤ m) (hq : q < R) : q * d + d ≤ m := by
  have h3 : (q + 1) * d ≤ R * d := Nat.mul_le_mul_right d (by omega)
  rw [Nat.add_mul, Nat.one_mul] at h3
  omega
theorem slot_apart (p q d i j : Nat) (hne : p ≠ q) (hi : i < d) (hj : j < d) : p * d + i ≠ q * d + j := by
  intro h
  rcases Nat.lt_or_gt_of_ne hne with h1 | h1
  · have := Nat.mul_le_mul_right d (show p + 1 ≤ q by omega)
    rw [Nat.add_mul, Nat.one_mul] at this
    omega
  · have := Nat.mul_le_mul_right d (show q + 1 ≤ p by omega)
    rw [Nat.add_mul, Nat.one_mul] at this
    omega
theorem mod_ne (t n R : Nat) (h1 : t < n) (h2 : n < t + R) : t % R ≠ n % R := by
  intro h
  have h3 : (n - t) % R = 0 := by
    have : n % R = t % R := h.symm
    exact Nat.sub_mod_eq_zero_of_mod_eq this
  rw [Nat.mod_eq_of_lt (by omega)] at h3
  omega
theorem rowL_getD (L : List Int) (k n j : Nat) (h : j < n) : (rowL L k n).getD j 0 = L.getD (k + j) 0 := by
  simp [rowL, List.getD_eq_getElem?_getD, h]
theorem rowL_congr {L M : List Int} {k p n : Nat} (h : ∀ j, j < n → L.getD (k + j) 0 = M.getD (p + j) 0) : rowL L k n = rowL M p n := by
  unfold rowL
  apply List.map_congr_left
  intro j hj
  exact h j (List.mem_range.1 hj)

/-- The frame that LoopKeeps pushes as number k: 100 k, 100 k + 1, .. -/
def hundL (k : Int) (j : Nat) : List Int := (List.range j).map fun (t : Nat) => 100 * k + (t : Int)
theorem hund_len (k : Int) (j : Nat) : (hundL k j).length = j := by simp [hundL]
theorem hund_succ (k : Int) (j : Nat) : hundL k (j + 1) = hundL k j ++ [100 * k + (j : Int)] := by simp [hundL, List.range_succ]
theorem hund_getD (k : Int) (n j : Nat) (h : j < n) : (hundL k n).getD j 0 = 100 * k + (j : Int) := by simp [hundL, List.getD_eq_getElem?_getD, h]
/-- What lies in the arena behind k frames. -/
def keepL (m R d : Nat) : Nat → List Int
  | 0 => List.replicate m 0
  | k + 1 => pushL (keepL m R d k) 0 R d (k : Int) (hundL (k : Int) d)
theorem keep_len (m R d : Nat) : ∀ k, (keepL m R d k).length = m
  | 0 => by simp [keepL]
  | k + 1 => by simp only [keepL, pushL]; rw [layTo_len, keep_len m R d k]
theorem keep_row (m R d : Nat) (hR : 1 ≤ R) (hm : R * d ≤ m) : ∀ (n t : Nat), t < n → n ≤ t + R → rowL (keepL m R d n) (0 + (atI (t : Int) R (d : Int)).toNat) d = hundL (t : Int) d
  | 0, t, h1, h2 => by omega
  | n + 1, t, h1, h2 => by
    rw [at_nat, Nat.zero_add]
    have key : ∀ j, j < d → (keepL m R d (n + 1)).getD (t % R * d + j) 0 = 100 * (t : Int) + (j : Int) := by
      intro j hj
      simp only [keepL, pushL]
      rw [at_nat, Nat.zero_add, layTo_getD, keep_len]
      have hs1 := slot_bd m d R (n % R) hm (Nat.mod_lt _ (by omega))
      have hs2 := slot_bd m d R (t % R) hm (Nat.mod_lt _ (by omega))
      by_cases htn : t = n
      · subst htn
        rw [if_pos (by omega), show t % R * d + j - t % R * d = j by omega, hund_getD _ _ _ hj]
      · have ih := keep_row m R d hR hm n t (by omega) (by omega)
        rw [at_nat, Nat.zero_add] at ih
        rw [if_neg]
        · rw [← rowL_getD _ _ d j hj, ih, hund_getD _ _ _ hj]
        · rintro ⟨h3, h4, h5⟩
          exact slot_apart (t % R) (n % R) d j (t % R * d + j - n % R * d) (mod_ne t n R (by omega) (by omega)) hj (by omega) (by omega)
    unfold rowL hundL
    apply List.map_congr_left
    intro j hj
    exact key j (List.mem_range.1 hj)
end Go.Proofs.Ytclikkhaaiihdaa
