/- The statement's acts: word, num, row. -/
import Derived.Test.YtbekechjphangaaRset
namespace Go.Proofs.Ytbekechjphangaa
open Go.RowKit
set_option linter.unusedVariables false

structure ActD where
  k : Int
  i : Int
  x : Int
  far : Bool
  wide : Bool
instance : Inhabited ActD := ⟨⟨0, 0, 0, false, false⟩⟩
def ActD.cells (s : ActD) : List Value := [.int .i64 s.k, .int .i64 s.i, .int .i64 s.x, .bool s.far, .bool s.wide]
def ActD.val (s : ActD) : Value := .agg #[.int .i64 s.k, .int .i64 s.i, .int .i64 s.x, .bool s.far, .bool s.wide]
def ActD.word (s : ActD) : Int := if s.far = true then s.i else s.i % 32 - 2
def ActD.num (s : ActD) : Int := if s.wide = true then s.x else s.x % 2147483648
def ActD.many (s : ActD) (n : Nat) : Nat := if s.far = true then n + 1 else n
def ActD.rowTo (s : ActD) (j : Nat) : List Int := (List.range j).map fun (t : Nat) => wrap64 (s.num - (t : Int))
def ActD.row (s : ActD) (n : Nat) : List Int := s.rowTo (s.many n)
theorem rowTo_len (s : ActD) (j : Nat) : (s.rowTo j).length = j := by simp [ActD.rowTo]
theorem rowTo_succ (s : ActD) (j : Nat) : s.rowTo (j + 1) = s.rowTo j ++ [wrap64 (s.num - (j : Int))] := by simp [ActD.rowTo, List.range_succ]
theorem and31b (n : Int) : bits .and .i64 n 2147483647 = n % 2147483648 := i64_mask n 2147483647 31 (by decide) (by decide)

set_option maxHeartbeats 1000000 in
theorem word_any (k i x : Int) (far wide : Bool) (w : World) : Calls Try.prog 15 #[.agg #[.int .i64 k, .int .i64 i, .int .i64 x, .bool far, .bool wide]] w fun r w' => r = .returned (.int .i64 (ActD.word ⟨k, i, x, far, wide⟩)) ∧ Below w.heap.size w w' := by
  have HB := hide ((Below.refl w.heap.size w).alloc (Nat.le_refl _) (.cells #[.int .i64 k, .int .i64 i, .int .i64 x, .bool far, .bool wide] 34))
  cases far
  · have ha := and31 i
    have hb1 : 0 ≤ i % 32 := by omega
    have hb2 : i % 32 < 32 := by omega
    have HV := hide (show ActD.word ⟨k, i, x, false, wide⟩ = i % 32 - 2 from rfl)
    rw [unhide HV]
    go_enter Try.func15, Try.ntmps15
    go_wp2
    go_ret
    exact ⟨rfl, unhide HB⟩
  · have HV := hide (show ActD.word ⟨k, i, x, true, wide⟩ = i from rfl)
    rw [unhide HV]
    go_enter Try.func15, Try.ntmps15
    go_wp2
    go_ret
    exact ⟨rfl, unhide HB⟩
set_option maxHeartbeats 1000000 in
theorem num_any (k i x : Int) (far wide : Bool) (w : World) : Calls Try.prog 16 #[.agg #[.int .i64 k, .int .i64 i, .int .i64 x, .bool far, .bool wide]] w fun r w' => r = .returned (.int .i64 (ActD.num ⟨k, i, x, far, wide⟩)) ∧ Below w.heap.size w w' := by
  have HB := hide ((Below.refl w.heap.size w).alloc (Nat.le_refl _) (.cells #[.int .i64 k, .int .i64 i, .int .i64 x, .bool far, .bool wide] 34))
  cases wide
  · have ha := and31b x
    have HV := hide (show ActD.num ⟨k, i, x, far, false⟩ = x % 2147483648 from rfl)
    rw [unhide HV]
    go_enter Try.func16, Try.ntmps16
    go_wp2
    go_ret
    exact ⟨rfl, unhide HB⟩
  · have HV := hide (show ActD.num ⟨k, i, x, far, true⟩ = x from rfl)
    rw [unhide HV]
    go_enter Try.func16, Try.ntmps16
    go_wp2
    go_ret
    exact ⟨rfl, unhide HB⟩
set_option maxHeartbeats 2000000 in
theorem actrow_any (k i x : Int) (far wide : Bool) (n : Nat) (hn : n ≤ 4096) (w : World) : Calls Try.prog 23 #[.agg #[.int .i64 k, .int .i64 i, .int .i64 x, .bool far, .bool wide], .int .i64 (n : Int)] w fun r w' => ∃ a cap m, r = .returned (.slice a m cap) ∧ Lies w' a (ActD.row ⟨k, i, x, far, wide⟩ n) ∧ (ActD.row ⟨k, i, x, far, wide⟩ n).length = m ∧ (a = none → m = 0 ∧ cap = 0) ∧ (∀ p, a = some p → w.heap.size ≤ p.block) ∧ Below w.heap.size w w' := by
  obtain ⟨i0, hi, hz0, hz1, hz2⟩ := info_parts Try.info3
  have HI : Hid (Try.prog.info? 3 = some i0 ∧ i0.zero = some (.int .i64 0) ∧ i0.size = 1 ∧ i0.bytes = 8) := ⟨hi, hz0, hz1, hz2⟩
  clear hi hz0 hz1 hz2
  obtain ⟨s, hs⟩ : ∃ s : ActD, ActD.mk k i x far wide = s := ⟨_, rfl⟩
  rw [hs]
  have HS := hide hs
  obtain ⟨M, hM⟩ : ∃ M, s.many n = M := ⟨_, rfl⟩
  have HM := hide hM
  have hMb : M ≤ n + 1 := by rw [← hM]; unfold ActD.many; split <;> omega
  obtain ⟨y, hy⟩ : ∃ y, s.num = y := ⟨_, rfl⟩
  have HY := hide hy
  obtain ⟨w1, hw1⟩ : ∃ w1, w1 = w.alloc (.cells #[.int .i64 k, .int .i64 i, .int .i64 x, .bool far, .bool wide] 34) := ⟨_, rfl⟩
  have HC : Hid (Cells w1 w.heap.size [.int .i64 k, .int .i64 i, .int .i64 x, .bool far, .bool wide]) := by rw [hw1]; exact cells_new w [_, _, _, _, _] 34
  have HB : Hid (Below w.heap.size w w1) := by rw [hw1]; exact (Below.refl w.heap.size w).alloc (Nat.le_refl _) _
  cases far
  case' false => have HMn : Hid ((M : Int) = (n : Int)) := by show _ = _; rw [← hM, ← hs]; rfl
  case' true => have HMn : Hid ((M : Int) = (n : Int) + 1) := by show _ = _; rw [← hM, ← hs]; show ((n + 1 : Nat) : Int) = _; omega
  all_goals (
    clear hM hy hs
    go_enter Try.func23, Try.ntmps23
    go_wp2
    rw [← hw1]
    rw [← unhide HMn]
    clear hw1
    go_loopw [6, 5] (fun iv v wr => ∃ (j : Nat), j ≤ M ∧ iv = .int .i64 (j : Int) ∧ Hid (wr.ownsRow w1.heap.size 3 1 v j (ints (s.rowTo j))) ∧ Hid (Below w1.heap.size w1 wr)) (fun iv _ _ => M - (intOf iv).toNat)
    case atStart => exact ⟨0, by omega, rfl, World.ownsRow_nil _ _ _ _, Below.refl _ _⟩
    case round =>
      obtain ⟨j, hj, rfl, HOwn, HBr⟩ := hrel
      by_cases hlt : j < M
      · have hC := (unhide HC).below (unhide HBr)
        have c0 := hC.cell 0 _ rfl
        have c1 := hC.cell 1 _ rfl
        have c2 := hC.cell 2 _ rfl
        have c3 := hC.cell 3 _ rfl
        have c4 := hC.cell 4 _ rfl
        clear hC
        go_wp2_with fail
        refine (num_any _ _ _ _ _ _).mono ?_
        rw [unhide HS, unhide HY]
        rintro e w2 ⟨rfl, hb⟩
        have HB2 := hide (below_trans (unhide HBr) hb)
        have HOwn2 := hide (owns_below (unhide HOwn) hb)
        clear hb c0 c1 c2 c3 c4 HOwn HBr
        obtain ⟨z, hz⟩ : ∃ z, wrap64 (y - (j : Int)) = z := ⟨_, rfl⟩
        go_wp2_with (at_builtin; refine wpList_append_own _ rfl _ _ 41 rfl w1.heap.size 3 i0 (.int .i64 0) 1 8 Try.underlying41 (unhide HI).1 (unhide HI).2.1 (unhide HI).2.2.1 (unhide HI).2.2.2 rfl (by decide) _ _ _ rfl ((unhide HOwn2).alloc _) ⟨w2.heap.size, 0, none⟩ 1 1 [.int .i64 z] rfl rfl ?d1 ?d2 ?d3 ?d4 ?d5 ?_)
        case d1 => exact cell_one_new _ _ _
        case d2 => exact ints_one [z]
        case d3 => unfold maxLen; omega
        case d4 => omega
        case d5 => have := (unhide HB2).size; simp; omega
        intro v4 w4 hown4 hg4 _
        have hgr : ∀ q, Value.ownBlock _ = some q → w1.heap.size ≤ q := fun q hq => ((unhide HOwn2).lt q hq).1
        have HB4 := hide (((unhide HB2).alloc (unhide HB2).size _).grown hg4 (by have := (unhide HB2).size; simp; omega) hgr)
        have HOwn4 := hide (show w4.ownsRow w1.heap.size 3 1 v4 (j + 1) (ints (s.rowTo (j + 1))) by rw [rowTo_succ, unhide HY, hz, ints_snoc]; exact hown4)
        clear hown4 hg4 hgr
        go_wp2
        go_roundw
        case rel => exact ⟨j + 1, by omega, rfl, HOwn4, HB4⟩
        case measure => simp [intOf]; omega
      · obtain rfl : j = M := by omega
        obtain ⟨a5, c5, rfl, hl5, hlen5⟩ := owned_lies (unhide HOwn)
        rw [hlen5] at HOwn ⊢
        have HL5 := hide hl5
        have HLn := hide hlen5
        clear hl5 hlen5
        go_wp2
        go_ret
        refine ⟨a5, c5, j, rfl, ?_, ?_, ?_, fun p hp => Nat.le_trans (unhide HB).size (owned_at (unhide HOwn) _ _ _ rfl p hp), below_trans (unhide HB) (unhide HBr)⟩
        · unfold ActD.row; rw [unhide HM]; exact unhide HL5
        · unfold ActD.row; rw [unhide HM]; exact unhide HLn
        · rintro rfl
          rcases (unhide HOwn).2 with ⟨h', h0⟩ | ⟨g, cap', cur, h1, _⟩
          · cases h'; exact ⟨rfl, rfl⟩
          · cases h1)
end Go.Proofs.Ytbekechjphangaa
