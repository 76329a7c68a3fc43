/- The statements' items: kind, xs, write. -/
import Derived.Test.YtifellblfafhmaaDrow
namespace Go.Proofs.Ytifellblfafhmaa
open Go.RowKit
set_option linter.unusedVariables false

/-- An item as it came: its two numbers, its slice; xs: its first nine. -/
structure It (w : World) (k n : Int) (a : Option Addr) (len cap : Nat) (xs : List Int) : Prop where
  k64 : In64 k
  n64 : In64 n
  le : len ≤ cap
  max : cap ≤ 9223372036854775807
  nine : xs.length = min len 9
  lies : Lies w a xs
  some : 9 < len → ∃ x, a = some x
  small : Small xs
def itemV (k n : Int) (a : Option Addr) (len cap : Nat) : Value := .agg #[.int .i64 k, .int .i64 n, .slice a len cap]
theorem kind_eq (k : Int) (h : In64 k) : (wrap64 (k.tmod 5 + 5)).tmod 5 = k % 5 := by
  obtain ⟨h0, h1⟩ := h
  unfold wrap64
  rcases Int.le_total 0 k with h | h
  · rw [Int.tmod_eq_emod_of_nonneg h]
    rw [Int.tmod_eq_emod_of_nonneg (by omega)]
    omega
  · have : k.tmod 5 = -((-k) % 5) := by
      have := Int.neg_tmod (-k) 5
      rw [Int.neg_neg] at this
      rw [this, Int.tmod_eq_emod_of_nonneg (by omega)]
    rw [this, Int.tmod_eq_emod_of_nonneg (by omega)]
    omega
theorem kind_any (k n : Int) (a : Option Addr) (len cap : Nat) (w : World) (h : In64 k) : Calls Try.prog 14 #[.agg #[.int .i64 k, .int .i64 n, .slice a len cap]] w fun e w' => e = .returned (.int .i64 (k % 5)) ∧ Below w.heap.size w w' := by
  have HK := hide (kind_eq k h)
  obtain ⟨h0, h1⟩ := h
  go_enter Try.func14, Try.ntmps14
  go_wp2
  go_ret
  exact ⟨ret_int (unhide HK), (Below.refl _ _).alloc (Nat.le_refl _) _⟩
theorem xs_any (k n : Int) (a : Option Addr) (len cap : Nat) (w : World) (hl : len ≤ cap) (hc : cap ≤ 9223372036854775807) (hs : 9 < len → ∃ x, a = some x) : Calls Try.prog 28 #[.agg #[.int .i64 k, .int .i64 n, .slice a len cap]] w fun e w' => e = .returned (.slice a (min len 9) cap) ∧ Below w.heap.size w w' := by
  by_cases h9 : 9 < len
  · obtain ⟨x, rfl⟩ := hs h9
    have HM := hide (show min len 9 = 9 by omega)
    rw [unhide HM]
    have h9' : (9 : Int) < (len : Int) := by omega
    have hc9 : ¬ cap = 0 := by omega
    go_enter Try.func28, Try.ntmps28
    go_wp2
    go_ret
    exact ⟨rfl, (Below.refl _ _).alloc (Nat.le_refl _) _⟩
  · have HM := hide (show min len 9 = len by omega)
    rw [unhide HM]
    have h9' : ¬ (9 : Int) < (len : Int) := by omega
    go_enter Try.func28, Try.ntmps28
    go_wp2
    go_ret
    exact ⟨rfl, (Below.refl _ _).alloc (Nat.le_refl _) _⟩
end Go.Proofs.Ytifellblfafhmaa
