/- What a layout obeys. -/
import Derived.Test.YtbekechjphangaaLayw
namespace Go.Proofs.Ytbekechjphangaa
open Go.RowKit
set_option linter.unusedVariables false

theorem layN_cons {s : Nat} {r : List Nat} {e : Nat} {p : List Nat × Nat} (h : layN (s :: r) e = some p) : e + s ≤ 4096 ∧ ∃ q, layN r (upN (e + s)) = some q ∧ p = (e :: q.1, q.2) := by
  unfold layN at h
  split at h
  · rename_i h0
    cases hr : layN r (upN (e + s)) with
    | none => rw [hr] at h; cases h
    | some q => rw [hr] at h; cases h; exact ⟨h0, q, rfl, rfl⟩
  · cases h
theorem lay_some : ∀ (l : List Nat) (e : Nat), (∀ s ∈ l, s ≤ 64) → e + 67 * l.length ≤ 4096 → ∃ p, layN l e = some p ∧ p.2 ≤ 4096
  | [], e, _, h => ⟨([], e), rfl, by simpa using h⟩
  | s :: r, e, hs, h => by
    have h1 := hs s (by simp)
    simp only [List.length_cons] at h
    have h2 : upN (e + s) ≤ e + s + 3 := by unfold upN; omega
    obtain ⟨p, hp, hp2⟩ := lay_some r (upN (e + s)) (fun x hx => hs x (by simp [hx])) (by omega)
    exact ⟨(e :: p.1, p.2), by unfold layN; rw [if_pos (by omega), hp]; rfl, hp2⟩
theorem lay_props : ∀ (l : List Nat) (e : Nat) (p : List Nat × Nat), layN l e = some p → e % 4 = 0 → p.2 % 4 = 0 ∧ e ≤ p.2 ∧ ∀ j, j < l.length → p.1.getD j 0 % 4 = 0 ∧ e ≤ p.1.getD j 0 ∧ p.1.getD j 0 + l.getD j 0 ≤ p.2
  | [], e, p, h, he => by cases h; exact ⟨he, Nat.le_refl _, fun j hj => by simp at hj⟩
  | s :: r, e, p, h, he => by
    obtain ⟨h0, q, hq, rfl⟩ := layN_cons h
    obtain ⟨h1, h2, h3⟩ := lay_props r _ q hq (upN_mod _)
    have h4 := upN_ge (e + s)
    refine ⟨h1, by show e ≤ q.2; omega, fun j hj => ?_⟩
    cases j with
    | zero => exact ⟨he, Nat.le_refl _, by show e + s ≤ q.2; omega⟩
    | succ j =>
      obtain ⟨g1, g2, g3⟩ := h3 j (by simpa using hj)
      exact ⟨by simpa using g1, by show e ≤ q.1.getD j 0; omega, by simpa using g3⟩
theorem lay_apart : ∀ (l : List Nat) (e : Nat) (p : List Nat × Nat), layN l e = some p → ∀ j k, j < k → k < l.length → p.1.getD j 0 + l.getD j 0 ≤ p.1.getD k 0
  | [], e, p, h => fun j k _ hk => by simp at hk
  | s :: r, e, p, h => fun j k hjk hk => by
    obtain ⟨h0, q, hq, rfl⟩ := layN_cons h
    cases k with
    | zero => omega
    | succ k =>
      cases j with
      | zero =>
        have h1 := ((lay_props r _ q hq (upN_mod _)).2.2 k (by simpa using hk)).2.1
        have h2 := upN_ge (e + s)
        show e + s ≤ q.1.getD k 0
        omega
      | succ j => exact lay_apart r _ q hq j k (by omega) (by simpa using hk)
/-- One word of zeros that is set: which one it is. -/
theorem one_word (E a b : Nat) (x : Int) (hb : b < E) (ha : a < E) : ((List.replicate E (0 : Int)).set b x).getD a 0 = if a = b then x else 0 := by
  rw [List.getD_eq_getElem?_getD, List.getElem?_set]
  by_cases h : b = a
  · subst h; simp [ha]
  · rw [if_neg h, if_neg (fun h' => h h'.symm)]; simp [ha]
end Go.Proofs.Ytbekechjphangaa
