/- Laws of copy and clear that say 'only block g'; contracts of New, Words, Zero, Part, Set. -/
import Derived.Test.YtbekechjphangaaLeaf
import Derived.Lib.SliceRun
import Derived.Laws.CopyOwn
namespace Go.Proofs.Ytbekechjphangaa
open Go.RowKit
set_option linter.unusedVariables false

theorem only_setRow (w : World) (g : Nat) (cs : Array Value) : Only g w (w.setRow g cs) :=
  ⟨rfl, rfl, rfl, by simp [World.setRow], fun k _ hk => setRow_other w g k cs hk⟩

/-- copy of all n cells of a row of n. -/
theorem copy_run {w : World} {g n : Nat} (cap dCap : Nat) {sp : Option Addr} {cur cs : List Int} (hg : Cells w g (ints cur)) (hl : Lies w sp cs) (hn : cs.length = n) (hm : cur.length = n) :
    ∃ w', (Builtin.copy_ #[41, 41] 3 #[.slice (some ⟨g, 0, none⟩) n dCap, .slice sp n cap]).run Try.prog w = .ok (goInt n) w' ∧ Only g w w' ∧ Cells w' g (ints cs) := by
  have hsz : (Try.prog.info? 3).map (·.size) = some 1 := by
    obtain ⟨i0, hi, hz0, hz1, hz2⟩ := info_parts Try.info3
    rw [hi]
    simp [hz1]
  obtain ⟨t, hg⟩ := hg
  by_cases h0 : n = 0
  · subst h0
    obtain rfl : cs = [] := List.eq_nil_of_length_eq_zero hn
    obtain rfl : cur = [] := List.eq_nil_of_length_eq_zero hm
    exact ⟨w, run_copy_none (P := Try.prog) w 41 41 3 3 _ _ _ _ _ _ Try.underlying41 hsz rfl, Only.refl _ _, ⟨t, hg⟩⟩
  · rcases hl with rfl | ⟨b, off, rfl, hb, hc⟩
    · exact absurd hn (by simpa using fun h => h0 h.symm)
    · have hrun := run_copy_row (P := Try.prog) w 41 41 3 3 g 0 n dCap ⟨b, off, none⟩ n cap (ints cur).toArray t (ints cs) Try.underlying41 hsz hg (by rw [ints_len, hn]; exact (Nat.min_self n).symm)
        (by
          intro j v hv
          have hj : j < cs.length := by have := (List.getElem?_eq_some_iff.1 hv).1; rwa [ints_len] at this
          rw [ints_at cs j hj] at hv
          cases hv
          rw [Addr.add_lit]
          exact hc j hj) (by simp [ints_len]; omega) (ints_one' cs)
      rw [ints_len, hn] at hrun
      refine ⟨_, hrun, only_setRow _ _ _, ⟨t, ?_⟩⟩
      rw [setRow_heap w g _ _ t _ hg]
      simp [ints, hm]
theorem copy_none (w : World) (a b : Option Addr) (c d n : Nat) : (Builtin.copy_ #[41, 41] 3 #[.slice a 0 c, .slice b n d]).run Try.prog w = .ok (goInt 0) w := by
  have hsz : (Try.prog.info? 3).map (·.size) = some 1 := by
    obtain ⟨i0, hi, hz0, hz1, hz2⟩ := info_parts Try.info3
    rw [hi]
    simp [hz1]
  exact run_copy_none (P := Try.prog) w 41 41 3 3 _ _ _ _ _ _ Try.underlying41 hsz (by simp)

def setG : List Value → Nat → List Value → List Value
  | l, _, [] => l
  | l, o, v :: r => setG (l.set o v) (o + 1) r
theorem setG_all (z : Value) : ∀ (n o : Nat) (l : List Value), o + n = l.length → setG l o (List.replicate n z) = l.take o ++ List.replicate n z
  | 0, o, l, h => by simp [setG, List.take_of_length_le (show l.length ≤ o by omega)]
  | n + 1, o, l, h => by
    rw [List.replicate_succ]
    show setG (l.set o z) (o + 1) (List.replicate n z) = _
    rw [setG_all z n (o + 1) (l.set o z) (by simp; omega), List.take_succ_eq_append_getElem (by simp; omega)]
    simp [List.take_set_of_le]
theorem only_setCells (g : Nat) : ∀ (vs : List Value) (o : Nat) (w : World), Only g w (w.setCells g o vs)
  | [], o, w => Only.refl g w
  | v :: r, o, w => (Only.setHere o v).trans (only_setCells g r (o + 1) _)
theorem cells_setCells (g : Nat) : ∀ (vs : List Value) (o : Nat) (w : World) (l : List Value), Cells w g l → Cells (w.setCells g o vs) g (setG l o vs)
  | [], o, w, l, h => h
  | v :: r, o, w, l, h => cells_setCells g r (o + 1) _ _ (h.set o v)
theorem cells_cleared {w : World} {g n : Nat} {cur : List Int} (h : Cells w g (ints cur)) (hn : cur.length = n) : Cells (w.setCells g 0 (List.replicate n (.int .i64 0))) g (ints (List.replicate n 0)) := by
  have := cells_setCells g (List.replicate n (.int .i64 0)) 0 w _ h
  rw [setG_all _ n 0 _ (by rw [ints_len]; omega)] at this
  simpa [ints] using this
theorem clear_run {w : World} {g n : Nat} {cur : List Int} (h : Cells w g (ints cur)) (hn : cur.length = n) (ty : TypeId) :
    ∃ w', (Builtin.clear_ #[41] ty #[.slice (some ⟨g, 0, none⟩) n n]).run Try.prog w = .ok (.tuple #[]) w' ∧ Only g w w' ∧ Cells w' g (ints (List.replicate n 0)) := by
  refine ⟨w.setCells g 0 (List.replicate n (.int .i64 0)), ?_, only_setCells g _ 0 w, cells_cleared h hn⟩
  have hz : ∀ w, (zeroValue 3).run Try.prog w = .ok (.int .i64 0) w := by
    intro w
    simp [zeroValue, Try.t3, go_sem]
  by_cases h0 : n = 0
  · subst h0
    simp [Builtin.clear_, run_underlying Try.underlying41, World.setCells, go_sem]
  · refine Lib.run_clear_slice w 41 3 ty (.int .i64 0) Try.underlying41 hz rfl rfl g 0 n n (by omega) ?_ ?_
    · intro j hj
      rw [Nat.zero_add, h.cell j _ (ints_at cur j (by omega))]
      rfl
    · intro j hj
      exact h.free _
end Go.Proofs.Ytbekechjphangaa
