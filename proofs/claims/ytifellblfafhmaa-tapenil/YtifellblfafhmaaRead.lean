/- Contracts of a reader: own, left, take; At, Left, Err, Byte, Short, Word, Long. -/
import Derived.Test.YtifellblfafhmaaAll
import Derived.Deep.QuietTactic
import Derived.BigQuiet
namespace Go.Proofs.Ytifellblfafhmaa
open Go.RowKit
set_option linter.unusedVariables false

/-- The number that bytes are, the lowest one first. -/
def numL : List UInt8 → Nat
  | [] => 0
  | b :: r => b.toNat + 256 * numL r
theorem numL_lt : ∀ l : List UInt8, numL l < 256 ^ l.length
  | [] => by simp [numL]
  | b :: r => by
    have := numL_lt r
    have := byte_lt b
    simp only [numL, List.length_cons, Nat.pow_succ]
    omega
theorem numL_snoc (l : List UInt8) (b : UInt8) : numL (l ++ [b]) = numL l + 256 ^ l.length * b.toNat := by
  induction l with
  | nil => simp [numL]
  | cons x r ih =>
    simp only [List.cons_append, numL, ih, List.length_cons, Nat.pow_succ]
    rw [Nat.mul_add, Nat.mul_comm (256 ^ r.length) 256, Nat.mul_assoc]
    omega
theorem numL_le (k : Nat) : ∀ x, numL (leL k x) = x % 256 ^ k := by
  intro x
  induction k with
  | zero => simp [leL, numL]; omega
  | succ k ih =>
    rw [leL_succ, numL_snoc, ih, leL_len, UInt8.toNat_ofNat']
    show x % 256 ^ k + 256 ^ k * (x / 256 ^ k % 256) = _
    rw [Nat.pow_succ, Nat.mod_mul]

/-- A reader lies in block c: how many were taken, the text, its error. -/
def Rd (c : Nat) (w : World) (at_ : Nat) (s : ByteArray) (e : Int) : Prop := Cells w c [.int .i64 (at_ : Int), .string s, .int .i64 e]
/-- What is taken: the number, and where the reader is then. -/
def fits (at_ : Nat) (s : ByteArray) (e : Int) (k : Nat) : Bool := decide (e = 0 ∧ at_ + k ≤ s.size)
def takeV (at_ : Nat) (s : ByteArray) (e : Int) (k : Nat) : Nat := if fits at_ s e k = true then numL (((B s).drop at_).take k) else 0
def takeA (at_ : Nat) (s : ByteArray) (e : Int) (k : Nat) : Nat := if fits at_ s e k = true then at_ + k else at_
def takeE (at_ : Nat) (s : ByteArray) (e : Int) (k : Nat) : Int := if fits at_ s e k = true then 0 else if e = 0 then 11 else e
theorem take_yes {at_ : Nat} {s : ByteArray} {k : Nat} (h : at_ + k ≤ s.size) : takeV at_ s 0 k = numL (((B s).drop at_).take k) ∧ takeA at_ s 0 k = at_ + k ∧ takeE at_ s 0 k = 0 := by
  have : fits at_ s 0 k = true := by unfold fits; simpa using h
  simp [takeV, takeA, takeE, this]
theorem take_short {at_ : Nat} {s : ByteArray} {k : Nat} (h : ¬ at_ + k ≤ s.size) : takeV at_ s 0 k = 0 ∧ takeA at_ s 0 k = at_ ∧ takeE at_ s 0 k = 11 := by
  have : fits at_ s 0 k = false := by unfold fits; simpa using h
  simp [takeV, takeA, takeE, this]
theorem take_no {at_ : Nat} {s : ByteArray} {e : Int} {k : Nat} (h : e ≠ 0) : takeV at_ s e k = 0 ∧ takeA at_ s e k = at_ ∧ takeE at_ s e k = e := by
  have : fits at_ s e k = false := by unfold fits; simp [h]
  simp [takeV, takeA, takeE, this, h]

theorem rown_any (c : Nat) (w : World) : Calls Try.prog 39 #[.pointer (some ⟨c, 0, none⟩)] w fun e w' => e = .returned (.pointer (some ⟨c, 0, none⟩)) ∧ w' = w := by
  go_enter Try.func39, Try.ntmps39
  go_wp2
  go_ret
  exact ⟨rfl, rfl⟩
theorem rown_nil (w : World) : Calls Try.prog 39 #[.pointer none] w fun e w' => e = .returned (.pointer (some ⟨w.heap.size, 0, none⟩)) ∧ w' = w.alloc (.cells #[.int .i64 0, .string ⟨#[]⟩, .int .i64 1] 63) := by
  go_enter Try.func39, Try.ntmps39
  go_wp2
  go_ret
  exact ⟨rfl, rfl⟩
theorem rd_nil (w : World) : Rd w.heap.size (w.alloc (.cells #[.int .i64 0, .string ⟨#[]⟩, .int .i64 1] 63)) 0 ⟨#[]⟩ 1 := cells_new w [.int .i64 0, .string ⟨#[]⟩, .int .i64 1] 63

theorem left_any (c at_ : Nat) (s : ByteArray) (e : Int) (w : World) (h : Rd c w at_ s e) (ha : at_ ≤ s.size) (hs : s.size ≤ 1000000000) :
    Calls Try.prog 41 #[.pointer (some ⟨c, 0, none⟩)] w fun e w' => e = .returned (.int .i64 ((s.size : Int) - (at_ : Int))) ∧ ∃ n, w' = w.drewN n := by
  have h0 := h.cell 0 _ rfl
  have h1 := h.cell 1 _ rfl
  have h2 := h.cell 2 _ rfl
  clear h
  go_enter Try.func41, Try.ntmps41
  go_wp2
  go_quiet ((go_at_call 37; exact Calls.quiet_of_same (count_at c at_ _ (by simpa using h0))))
  go_wp2
  go_ret
  exact ⟨rfl, _, rfl⟩
end Go.Proofs.Ytifellblfafhmaa
