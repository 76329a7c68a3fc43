/- What a frame goes through: numbers alone. -/
import Derived.Test.YtbkdgpeooeokmaaDoorFrontRef
namespace Go.Proofs.YtbkdgpeooeokmaaDoor
open Go.RowKit
set_option linter.unusedVariables false

theorem winAt_bd (n t : Nat) : 1310 ≤ winAt n t ∧ winAt n t ≤ 16384 := by unfold winAt; have := half_bd (t * 64 / n); omega
theorem fpow_small (xs ys : List Int) : Small (powL xs ys) := small_mk _ _ fun _ _ => wrap_in _
theorem fdivI_in (x n : Int) (hx : In64 x) : In64 (divI x n) := by
  by_cases c : n < 1
  · rw [divI_no x n c]; exact ⟨by decide, by decide⟩
  · have hq := quo_in x n (by omega) hx
    by_cases c2 : n - x % n ≤ x % n
    · have := up_bd x n (by omega) hx c2
      rw [divI_up x n (by omega) c2]
      obtain ⟨h1, h2⟩ := hq
      exact ⟨by omega, by omega⟩
    · rw [divI_down x n (by omega) c2]; exact hq
theorem fhalf_in (x s : Int) (hx : In64 x) : In64 (halfI x s) := by
  unfold halfI; split
  · exact fdivI_in _ _ hx
  · constructor <;> decide
theorem fdown_small (s : Int) (xs : List Int) (hs : Small xs) : Small (downL s xs) := by
  intro x hx
  obtain ⟨y, hy, rfl⟩ := List.mem_map.1 hx
  exact fhalf_in y s (hs y hy)
theorem fmov_bd (h : Nat) (xs : List Int) : 0 ≤ movS h xs ∧ movS h xs ≤ 49 := by
  rw [mov_max]
  have h1 := norm_bd (partsL cosC h xs) (parts_small _ _ _)
  have h2 := norm_bd (partsL sinC h xs) (parts_small _ _ _)
  omega
theorem fbands_small (p es : List Int) : Small (bandsL p es) := small_mk _ _ fun t _ => by
  unfold bandI
  obtain ⟨h1, h2⟩ := wrap_in (bandS p (es.getD t 0) (es.getD (t + 1) 0) (es.getD (t + 2) 0) p.length)
  constructor <;> omega
theorem fedges_small (n M : Nat) (h1 : 2 ≤ n) (h2 : n ≤ 65) : Small (edgesL n M) := small_mk _ _ fun t ht => by
  have := (edge_spec n M t h1 h2 (by omega)).1
  constructor <;> omega
theorem fwin_len (n : Nat) (h : n = 16 ∨ n = 32 ∨ n = 64) : (winI (n : Int)).length = n := by
  unfold winI; rw [if_pos (by omega)]; simp [winOf]
theorem fwin_lies {w : World} {a : Option Addr} (n : Nat) (h : n = 16 ∨ n = 32 ∨ n = 64) (hl : Lies w a (winI (n : Int))) : Lies w a (mkL n (winAt n)) := by
  have e : winI (n : Int) = mkL n (winAt n) := by unfold winI; rw [if_pos (by omega)]; simp [winOf, mkL]
  rw [← e]; exact hl
theorem own_head {w : World} {base n : Nat} {v : Value} {xs : List Value} (h : w.ownsRow base 3 1 v n xs) (h0 : 0 < n) : ∃ g c, v = .slice (some ⟨g, 0, none⟩) n c ∧ base ≤ g := by
  rcases h.2 with ⟨h', h''⟩ | ⟨g, cap', cur, h1, h2, _⟩
  · exfalso; omega
  · exact ⟨g, cap', h1, h2⟩
theorem winned_len (n : Nat) (ys : List Int) : (winnedL n ys).length = n := mkL_len _ _
theorem winned_at (n : Nat) (ys : List Int) (t : Nat) (ht : t < n) : (winnedL n ys).getD t 0 = halfI (ys.getD t 0 * winAt n t) 14 := mkL_at _ _ _ ht
end Go.Proofs.YtbkdgpeooeokmaaDoor
