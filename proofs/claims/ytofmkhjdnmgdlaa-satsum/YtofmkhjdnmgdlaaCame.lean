/- A slice of int that came in, and its first forty: what the statements' walks are told of it. -/
import Derived.Test.YtofmkhjdnmgdlaaAwake
namespace Go.Proofs.Ytofmkhjdnmgdlaa
open Go.RowKit
set_option linter.unusedVariables false

def IsRow (k : IntKind) (w : World) (a : Option Addr) (len cap : Nat) (zs : List Int) : Prop :=
  (a = none ∧ len = 0 ∧ cap = 0 ∧ zs = []) ∨
  ∃ x, a = some x ∧ len ≤ cap ∧ cap ≤ maxLen ∧ zs.length = cap ∧ (∀ i, i < zs.length → w.cell? (x.add i) = some (.int k (zs.getD i 0))) ∧ ∀ n ∈ zs, (Lit.int k n).wf = true

theorem lt_of_cell {w : World} {p : Addr} {v : Value} (h : w.cell? p = some v) : p.block < w.heap.size := by
  rcases Nat.lt_or_ge p.block w.heap.size with h' | h'
  · exact h'
  · simp [World.cell?, Array.getElem?_eq_none h'] at h

theorem lies_of_row {w : World} {x : Addr} {zs : List Int} (n : Nat) (hn : n ≤ zs.length) (hc : ∀ i, i < zs.length → w.cell? (x.add i) = some (.int .i64 (zs.getD i 0))) : Lies w (some x) (zs.take n) := by
  by_cases h0 : n = 0
  · subst h0; exact .inl (by simp)
  · obtain ⟨b, off, spot⟩ := x
    have h1 := hc 0 (by omega)
    have hspot : spot = none := by simpa [Addr.add] using World.cell?_spot h1
    subst hspot
    refine .inr ⟨b, off, rfl, ?_, fun j hj => ?_⟩
    · have := lt_of_cell h1; simpa [Addr.add] using this
    · have hj' : j < n := by simp at hj; omega
      have h2 := hc j (by omega)
      rw [show (zs.take n).getD j 0 = zs.getD j 0 by simp [List.getD_eq_getElem?_getD, hj']]
      rw [Addr.add_lit] at h2
      exact h2

theorem small_take {zs : List Int} (n : Nat) (h : ∀ z ∈ zs, (Lit.int .i64 z).wf = true) : Small (zs.take n) := fun x hx => in_of_wf (h x (List.mem_of_mem_take hx))

theorem few_came (a : Option Addr) (len cap : Nat) (zs : List Int) (w : World) (h : IsRow .i64 w a len cap zs) :
    ∃ xs : List Int, xs.length ≤ 40 ∧ xs.length ≤ cap ∧ cap ≤ 9223372036854775807 ∧ Lies w a xs ∧ Small xs ∧ (a = none → xs = [] ∧ cap = 0) ∧
      ∀ w', Calls Try.prog 9 #[.slice a len cap] w' fun e w'' => e = .returned (.slice a xs.length cap) ∧ w'' = w' := by
  rcases h with ⟨rfl, rfl, rfl, rfl⟩ | ⟨x, rfl, hl, hm, hz, hcell, hwz⟩
  · exact ⟨[], by simp, by simp, by omega, .inl rfl, by intro x hx; simp at hx, fun _ => ⟨rfl, rfl⟩, fun w' => few_no none 0 0 w' (by omega)⟩
  · unfold maxLen at hm
    by_cases hlen : 40 < len
    · refine ⟨zs.take 40, by simp; omega, by simp; omega, hm, lies_of_row 40 (by omega) hcell, small_take 40 hwz, fun e => by simp at e, fun w' => ?_⟩
      rw [show (zs.take 40).length = 40 by simp; omega]
      exact few_yes x len cap w' hlen hl hm
    · refine ⟨zs.take len, by simp; omega, by simp; omega, hm, lies_of_row len (by omega) hcell, small_take len hwz, fun e => by simp at e, fun w' => ?_⟩
      rw [show (zs.take len).length = len by simp; omega]
      exact few_no (some x) len cap w' (by omega)
end Go.Proofs.Ytofmkhjdnmgdlaa
