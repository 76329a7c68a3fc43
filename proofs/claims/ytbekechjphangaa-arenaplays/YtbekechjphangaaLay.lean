/- Layout: what it answers; contracts of up, Layout and of the document's. -/
import Derived.Test.YtbekechjphangaaBig
namespace Go.Proofs.Ytbekechjphangaa
open Go.RowKit
set_option linter.unusedVariables false

def upN (x : Nat) : Nat := (x + 3) / 4 * 4
/-- The places of things of these sizes from e on, and the end; none, if there is no room. -/
def layN : List Nat → Nat → Option (List Nat × Nat)
  | [], e => some ([], e)
  | s :: r, e => if e + s ≤ 4096 then (layN r (upN (e + s))).map fun p => (e :: p.1, p.2) else none
theorem upN_le {x : Nat} (h : x ≤ 4096) : upN x ≤ 4096 := by unfold upN; omega
theorem upN_ge (x : Nat) : x ≤ upN x := by unfold upN; omega
theorem upN_mod (x : Nat) : upN x % 4 = 0 := by unfold upN; omega
theorem layN_len : ∀ (l : List Nat) (e : Nat) (p : List Nat × Nat), layN l e = some p → p.1.length = l.length
  | [], e, p, h => by cases h; rfl
  | s :: r, e, p, h => by
    unfold layN at h
    split at h
    · cases hr : layN r (upN (e + s)) with
      | none => rw [hr] at h; cases h
      | some q => rw [hr] at h; cases h; simp [layN_len r _ q hr]
    · cases h
/-- What is left to lay when k are laid: the places so far, the end so far. -/
theorem layN_drop (l : List Nat) (e k : Nat) (hk : k < l.length) (s : Nat) (hs : l.getD k 0 = s) : layN (l.drop k) e = if e + s ≤ 4096 then (layN (l.drop (k + 1)) (upN (e + s))).map fun p => (e :: p.1, p.2) else none := by
  rw [List.drop_eq_getElem_cons hk]
  have : l[k] = s := by rw [← hs, List.getD_eq_getElem?_getD, List.getElem?_eq_getElem hk]; rfl
  rw [this]
  rfl

set_option maxHeartbeats 1000000 in
theorem up_any (x : Nat) (hx : x ≤ 100000) (w : World) : Calls Try.prog 41 #[.int .i64 (x : Int)] w fun r w' => r = .returned (.int .i64 ((upN x : Nat) : Int)) ∧ w' = w := by
  have hv : ((x : Int) + 3) / 4 * 4 = ((upN x : Nat) : Int) := by unfold upN; omega
  have HV := hide hv
  clear hv
  go_enter Try.func41, Try.ntmps41
  go_wp2
  go_ret
  refine ⟨ret_int ?_, rfl⟩
  rw [← unhide HV]
  omega
set_option maxHeartbeats 1000000 in
theorem rup_any (x : Nat) (hx : x ≤ 100000) (w : World) : Calls Try.prog 45 #[.int .i64 (x : Int)] w fun r w' => r = .returned (.int .i64 ((upN x : Nat) : Int)) ∧ w' = w := by
  have hv : ((x : Int) + 3) / 4 * 4 = ((upN x : Nat) : Int) := by unfold upN; omega
  have HV := hide hv
  clear hv
  go_enter Try.func45, Try.ntmps45
  go_wp2
  go_ret
  refine ⟨ret_int ?_, rfl⟩
  rw [← unhide HV]
end Go.Proofs.Ytbekechjphangaa
