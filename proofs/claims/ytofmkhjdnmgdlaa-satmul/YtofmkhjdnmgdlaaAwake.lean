/- The contracts of the statements' own helpers: awake is true; few is the first forty. -/
import Derived.Test.YtofmkhjdnmgdlaaAdds
namespace Go.Proofs.Ytofmkhjdnmgdlaa
open Go.RowKit
set_option linter.unusedVariables false

theorem lies_new (w : World) (xs : List Int) (n : Nat) (hn : n = w.heap.size) : Lies (w.alloc (.cells (xs.map (Value.int .i64)).toArray 3)) (some ⟨n, 0, none⟩) xs := by
  subst hn
  refine .inr ⟨w.heap.size, 0, rfl, by simp, fun j hj => ?_⟩
  rw [World.cell?_alloc_at _ _ _ _ rfl]
  simp [List.getD_eq_getElem?_getD, List.getElem?_eq_getElem hj]

theorem sum_three : num64 ([9223372036854775807, 1, -1] : List Int).sum = 9223372036854775807 ∧ ok64 ([9223372036854775807, 1, -1] : List Int).sum = true := by decide
theorem add_three : add0 8 [100, 100, -1] = 126 := by decide

set_option maxHeartbeats 1000000 in
theorem awake_any (w : World) : Calls Try.prog 8 #[] w fun e w' => e = .returned (.bool true) ∧ Below w.heap.size w w' := by
  go_enter Try.func8, Try.ntmps8
  go_wp2_with fail
  refine (sum_any (some ⟨w.heap.size, 0, none⟩) 3 [9223372036854775807, 1, -1] _ (lies_new w [9223372036854775807, 1, -1] _ rfl) (by intro x hx; simp at hx; rcases hx with rfl | rfl | rfl <;> exact ⟨by decide, by decide⟩) (by decide)).mono ?_
  rintro e w1 ⟨rfl, hb1⟩
  rw [sum_three.1, sum_three.2]
  go_wp2_with fail
  refine (add_any (some ⟨w1.heap.size, 0, none⟩) 3 8 [100, 100, -1] _ (lies_new w1 [100, 100, -1] _ rfl) (by intro x hx; simp at hx; rcases hx with rfl | rfl <;> exact ⟨by decide, by decide⟩) (by decide)).mono ?_
  rintro e w2 ⟨rfl, hb2⟩
  rw [add_three]
  go_wp2
  go_ret
  have s1 : w.heap.size ≤ w1.heap.size := Nat.le_trans (by simp) hb1.size
  exact ⟨rfl, (((Below.refl _ w).alloc (Nat.le_refl _) _).trans (hb1.mono (by simp))).trans ((((Below.refl _ w1).alloc s1 _)).trans (hb2.mono (by simp; omega)))⟩

set_option maxHeartbeats 1000000 in
theorem few_yes (a : Addr) (len cap : Nat) (w : World) (h : 40 < len) (hc : len ≤ cap) (hm : cap ≤ 9223372036854775807) :
    Calls Try.prog 9 #[.slice (some a) len cap] w fun e w' => e = .returned (.slice (some a) 40 cap) ∧ w' = w := by
  have h' : (40 : Int) < (len : Int) := by omega
  have h2 : (40 : Int) ≤ (cap : Int) := by omega
  go_enter Try.func9, Try.ntmps9
  go_wp2
  go_ret
  exact ⟨rfl, rfl⟩

set_option maxHeartbeats 1000000 in
theorem few_no (a : Option Addr) (len cap : Nat) (w : World) (h : len ≤ 40) :
    Calls Try.prog 9 #[.slice a len cap] w fun e w' => e = .returned (.slice a len cap) ∧ w' = w := by
  have h' : ¬ (40 : Int) < (len : Int) := by omega
  go_enter Try.func9, Try.ntmps9
  go_wp2
  go_ret
  exact ⟨rfl, rfl⟩
end Go.Proofs.Ytofmkhjdnmgdlaa
