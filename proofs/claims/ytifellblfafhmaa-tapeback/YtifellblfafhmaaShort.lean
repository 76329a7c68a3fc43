/- The walk of TapeShort. -/
import Derived.Test.YtifellblfafhmaaWake
namespace Go.Proofs.Ytifellblfafhmaa
open Go.RowKit
set_option linter.unusedVariables false

/-- A word that was written, read. -/
theorem wordI_of (x : Int) : wordI (numL (wordL x)) = wrap32 x := by
  unfold wordL
  rw [numL_le]
  unfold wordI wrap32 u64N
  omega
theorem words_drop (xs : List Int) : ∀ (i : Nat), i ≤ xs.length → (xs.flatMap wordL).drop (4 * i) = (xs.drop i).flatMap wordL := by
  induction xs with
  | nil => intro i h; simp at h; subst h; rfl
  | cons x r ih =>
    intro i h
    cases i with
    | zero => rfl
    | succ i =>
      rw [List.flatMap_cons, List.drop_append, List.drop_of_length_le (by unfold wordL; rw [leL_len]; omega)]
      rw [show (wordL x).length = 4 from leL_len _ _, show 4 * (i + 1) - 4 = 4 * i by omega]
      simpa using ih i (by simpa using h)
theorem word_here (xs : List Int) (u : ByteArray) (m i : Nat) (hu : B u = (xs.flatMap wordL).take m) (hi : i < xs.length) (hm : 4 * (i + 1) ≤ m) : ((B u).drop (4 * i)).take 4 = wordL (xs.getD i 0) := by
  rw [hu, List.drop_take, List.take_take, words_drop xs i (by omega), show min 4 (m - 4 * i) = 4 by omega, List.drop_eq_getElem_cons hi, List.flatMap_cons]
  rw [List.take_append_of_le_length (by rw [show (wordL xs[i]).length = 4 from leL_len _ _]; omega), List.take_of_length_le (by rw [show (wordL xs[i]).length = 4 from leL_len _ _]; omega)]
  rw [List.getD_eq_getElem?_getD, List.getElem?_eq_getElem hi]
  rfl
/-- Where the reader of cut words is behind the first i. -/
def atS (whole i : Nat) : Nat := 4 * min i whole
def errS (whole i : Nat) : Int := if i ≤ whole then 0 else 11
theorem short_step (xs : List Int) (u : ByteArray) (m whole i : Nat) (hu : B u = (xs.flatMap wordL).take m) (hs : u.size = m) (hw : whole = m / 4) (hi : i < xs.length) (hm : m < 4 * xs.length) :
    wordI (takeV (atS whole i) u (errS whole i) 4) = (if i < whole then wrap32 (xs.getD i 0) else 0) ∧ takeA (atS whole i) u (errS whole i) 4 = atS whole (i + 1) ∧ takeE (atS whole i) u (errS whole i) 4 = errS whole (i + 1) := by
  by_cases h1 : i < whole
  · have ha : atS whole i = 4 * i := by unfold atS; omega
    have he : errS whole i = 0 := by unfold errS; rw [if_pos (by omega)]
    rw [ha, he]
    obtain ⟨T1, T2, T3⟩ := take_yes (at_ := 4 * i) (s := u) (k := 4) (by omega)
    rw [T1, T2, T3, if_pos h1, word_here xs u m i hu hi (by omega)]
    exact ⟨wordI_of _, by unfold atS; omega, by unfold errS; rw [if_pos (by omega)]⟩
  · rw [if_neg h1]
    by_cases h2 : i = whole
    · have ha : atS whole i = 4 * whole := by unfold atS; omega
      have he : errS whole i = 0 := by unfold errS; rw [if_pos (by omega)]
      rw [ha, he]
      obtain ⟨T1, T2, T3⟩ := take_short (at_ := 4 * whole) (s := u) (k := 4) (by omega)
      rw [T1, T2, T3]
      exact ⟨by unfold wordI wrap32; omega, by unfold atS; omega, by unfold errS; rw [if_neg (by omega)]⟩
    · have ha : atS whole i = 4 * whole := by unfold atS; omega
      have he : errS whole i = 11 := by unfold errS; rw [if_neg (by omega)]
      rw [ha, he]
      obtain ⟨T1, T2, T3⟩ := take_no (at_ := 4 * whole) (s := u) (e := 11) (k := 4) (by decide)
      rw [T1, T2, T3]
      exact ⟨by unfold wordI wrap32; omega, by unfold atS; omega, by unfold errS; rw [if_neg (by omega)]⟩

theorem cut15_came (a : Option Addr) (len cap : Nat) (zs : List Int) (w : World) (h : IsRow .i64 w a len cap zs) :
    ∃ (xs : List Int) (n : Nat), xs.length = n ∧ n ≤ 15 ∧ n ≤ cap ∧ cap ≤ 9223372036854775807 ∧ Lies w a xs ∧ Small xs ∧ ((len = n) ∨ (n = 15 ∧ 15 < len ∧ len ≤ cap ∧ ∃ x, a = some x)) := by
  rcases h with ⟨rfl, rfl, rfl, rfl⟩ | ⟨x, rfl, hl, hm, hz, hcell, hwz⟩
  · exact ⟨[], 0, rfl, by omega, by omega, by omega, .inl rfl, by intro x hx; simp at hx, .inl rfl⟩
  · unfold maxLen at hm
    by_cases hlen : 15 < len
    · exact ⟨zs.take 15, 15, by simp; omega, by omega, by omega, hm, lies_of_row 15 (by omega) hcell, small_take 15 hwz, .inr ⟨rfl, hlen, hl, x, rfl⟩⟩
    · exact ⟨zs.take len, len, by simp; omega, by omega, by omega, hm, lies_of_row len (by omega) hcell, small_take len hwz, .inl rfl⟩
end Go.Proofs.Ytifellblfafhmaa
