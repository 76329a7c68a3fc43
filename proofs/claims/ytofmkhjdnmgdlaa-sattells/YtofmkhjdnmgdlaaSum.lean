/- The contract of sat.Sum and of its closure. -/
import Derived.Test.YtofmkhjdnmgdlaaLeaf
namespace Go.Proofs.Ytofmkhjdnmgdlaa
open Go.RowKit
set_option linter.unusedVariables false

theorem add64 (x y : Int) (hx : 0 ≤ x) (hy : 0 ≤ y) (w : World) : (callFunc 22 #[.int .u64 x, .int .u64 y, .int .u64 0]).run Try.prog w =
    .ok (.value (.tuple #[.int .u64 ((x + y) % 18446744073709551616), .int .u64 ((x + y) / 18446744073709551616)])) w := by
  rw [run_callFunc_extern Try.func22 (by kernel_rfl) (by kernel_rfl) (by kernel_rfl) (e := add64Entry) (by kernel_rfl), run_add64 x y 0 hx hy (by omega) (by omega)]
  simp only [Result.andThen, Int.add_zero]

theorem sum1_r (x r : Int) : (r + IntKind.u64.wrap x) % 18446744073709551616 = (r + x) % 18446744073709551616 := by rw [IntKind.wrap_u64]; omega
theorem sum1_t (x r t : Int) (hx : In64 x) (r0 : 0 ≤ r) (r1 : r ≤ 18446744073709551615) (t0 : -4611686018427387904 ≤ t) (t1 : t ≤ 4611686018427387904) :
    wrap64 (t + wrap64 (x / 9223372036854775808 + wrap64 ((r + IntKind.u64.wrap x) / 18446744073709551616))) = t + (r + x) / 18446744073709551616 := by
  obtain ⟨x1, x2⟩ := hx
  rw [IntKind.wrap_u64]
  have hc : x / 9223372036854775808 + (r + x % 18446744073709551616) / 18446744073709551616 = (r + x) / 18446744073709551616 := by
    by_cases c : x < 0
    · have e1 : x / 9223372036854775808 = -1 := by omega
      have e2 : x % 18446744073709551616 = x + 18446744073709551616 := by omega
      rw [e1, e2]; omega
    · have e1 : x / 9223372036854775808 = 0 := by omega
      have e2 : x % 18446744073709551616 = x := by omega
      rw [e1, e2]; omega
  have hd : 0 ≤ (r + x % 18446744073709551616) / 18446744073709551616 ∧ (r + x % 18446744073709551616) / 18446744073709551616 ≤ 1 := by omega
  have he : -1 ≤ (r + x) / 18446744073709551616 ∧ (r + x) / 18446744073709551616 ≤ 1 := by omega
  rw [w64_in (n := (r + x % 18446744073709551616) / 18446744073709551616) ⟨by omega, by omega⟩, hc, w64_in (n := (r + x) / 18446744073709551616) ⟨by omega, by omega⟩, w64_in ⟨by omega, by omega⟩]

set_option maxHeartbeats 400000 in
theorem sum1_any (x t r : Int) (bt br : Nat) (w : World) (hx : In64 x) (r0 : 0 ≤ r) (r1 : r ≤ 18446744073709551615) (t0 : -4611686018427387904 ≤ t) (t1 : t ≤ 4611686018427387904) (hne : bt ≠ br)
    (hr : w.heap[br]? = some (.cells #[.int .u64 r] 41 (0, 0))) (ht : w.heap[bt]? = some (.cells #[.int .i64 t] 3 (0, 0))) :
    Calls Try.prog 21 #[.int .i64 x, .pointer (some ⟨br, 0, none⟩), .pointer (some ⟨bt, 0, none⟩)] w fun e w' => e = .returned (.tuple #[]) ∧
      w' = (w.setCell ⟨br, 0, none⟩ (.int .u64 ((r + x) % 18446744073709551616))).setCell ⟨bt, 0, none⟩ (.int .i64 (t + (r + x) / 18446744073709551616)) := by
  have cr := cell_of_one hr
  have fr := free_of_one hr
  have ct := cell_of_one ht
  have ft := free_of_one ht
  obtain ⟨x1, x2⟩ := hx
  have hw : 0 ≤ IntKind.u64.wrap x := by rw [IntKind.wrap_u64]; omega
  go_enter Try.func21, Try.ntmps21
  go_wp2_with (simp only [add64 r _ r0 hw])
  go_end0
  rw [← sum1_r x r, ← sum1_t x r t ⟨x1, x2⟩ r0 r1 t0 t1]
  exact ⟨rfl, rfl⟩

/-- A slice of int lies in memory: its numbers, cell by cell. -/
def Lies (w : World) (a : Option Addr) (xs : List Int) : Prop :=
  xs = [] ∨ ∃ b off, a = some ⟨b, off, none⟩ ∧ b < w.heap.size ∧ ∀ j, j < xs.length → w.cell? ⟨b, off + j, none⟩ = some (.int .i64 (xs.getD j 0))

theorem Lies.below {w w' : World} {a : Option Addr} {xs : List Int} (h : Lies w a xs) (hb : Below w.heap.size w w') : Lies w' a xs := by
  rcases h with h | ⟨b, off, ha, hlt, hc⟩
  · exact .inl h
  · exact .inr ⟨b, off, ha, Nat.lt_of_lt_of_le hlt hb.size, fun j hj => by rw [hb.cell (p := ⟨b, off + j, none⟩) hlt]; exact hc j hj⟩

def Small (xs : List Int) : Prop := ∀ x ∈ xs, In64 x
def sumTo (xs : List Int) (k : Nat) : Int := (xs.take k).sum
theorem sumTo_succ (xs : List Int) (k : Nat) (h : k < xs.length) : sumTo xs (k + 1) = sumTo xs k + xs.getD k 0 := by
  unfold sumTo
  rw [List.take_succ_eq_append_getElem h, List.sum_append]
  simp [List.getD_eq_getElem?_getD, List.getElem?_eq_getElem h]
theorem sumTo_all (xs : List Int) : sumTo xs xs.length = xs.sum := by unfold sumTo; rw [List.take_length]
theorem Small.at {xs : List Int} (h : Small xs) (k : Nat) (hk : k < xs.length) : In64 (xs.getD k 0) := by
  rw [List.getD_eq_getElem?_getD, List.getElem?_eq_getElem hk]
  exact h _ (List.getElem_mem hk)
theorem sumTo_bd (xs : List Int) (h : Small xs) (k : Nat) (hk : k ≤ xs.length) : -(9223372036854775808 * (k : Int)) ≤ sumTo xs k ∧ sumTo xs k ≤ 9223372036854775808 * (k : Int) := by
  induction k with
  | zero => simp [sumTo]
  | succ k ih =>
    have h1 := ih (by omega)
    have h2 := h.at k (by omega)
    obtain ⟨h3, h4⟩ := h2
    rw [sumTo_succ xs k (by omega)]
    omega

theorem sum_ret (t n : Int) (h : t = n) :
    Ending.returned (.tuple #[.int .i64 (num64 t), .bool (ok64 t)]) = Ending.returned (.tuple #[.int .i64 (num64 n), .bool (ok64 n)]) := by rw [h]

set_option maxHeartbeats 1000000 in
theorem sum_any (a : Option Addr) (cap : Nat) (xs : List Int) (w : World) (hl : Lies w a xs) (hs : Small xs) (hn : xs.length ≤ 1000000) :
    Calls Try.prog 10 #[.slice a xs.length cap] w fun e w' => e = .returned (.tuple #[.int .i64 (num64 xs.sum), .bool (ok64 xs.sum)]) ∧ Below w.heap.size w w' := by
  have hmf : ∀ (fn : Fn) (first cap : Array Value) (w : World), (Instr.makeFunc fn first cap).run Try.prog w = .ok (.func fn first cap) w := fun _ _ _ _ => rfl
  go_enter Try.func10, Try.ntmps10
  go_wp2
  go_loopw [12] (fun i wr => ∃ k : Nat, k ≤ xs.length ∧ i = .int .i64 k ∧ wr.heap[w.heap.size]? = some (.cells #[.int .i64 (sumTo xs k / 18446744073709551616)] 3 (0, 0)) ∧ wr.heap[w.heap.size + 1]? = some (.cells #[.int .u64 (sumTo xs k % 18446744073709551616)] 41 (0, 0)) ∧ Below w.heap.size w wr)
    (fun i _ => xs.length - (intOf i).toNat)
  case atStart =>
    refine ⟨0, Nat.zero_le _, rfl, ?_, ?_, ?_⟩
    · rw [Below.heap_alloc _ _ _ (by simp)]; exact heap_alloc_new _ _
    · have h := heap_alloc_new (w.alloc (.cells #[.int .i64 0] 3)) (.cells #[.int .u64 0] 41)
      rw [World.size_alloc] at h
      exact h
    · exact ((Below.refl _ w).alloc (Nat.le_refl _) _).alloc (by simp) _
  case round =>
    obtain ⟨k, hk, rfl, ht, hr, hb⟩ := hrel
    have bd := sumTo_bd xs hs k hk
    by_cases hlt : k < xs.length
    · obtain rfl | ⟨b, off, rfl, hblt, hcells⟩ := hl
      · simp at hlt
      have hc : wr.cell? ⟨b, off + k, none⟩ = some (.int .i64 (xs.getD k 0)) := by rw [hb.cell (p := ⟨b, off + k, none⟩) hblt]; exact hcells k hlt
      have hx := hs.at k hlt
      have hsucc := sumTo_succ xs k hlt
      generalize xs.getD k 0 = x at *
      generalize hS : sumTo xs k = S at *
      generalize hS' : sumTo xs (k + 1) = S' at *
      have HS := hide hsucc
      have H1 := hide hS
      have H2 := hide hS'
      clear hsucc hS hS' hcells
      go_wp2_with fail
      refine (sum1_any x (S / 18446744073709551616) (S % 18446744073709551616) w.heap.size (w.heap.size + 1) wr hx (by omega) (by omega) (by omega) (by omega) (by omega) hr ht).mono ?_
      rintro e w1 ⟨rfl, rfl⟩
      go_wp2
      go_roundw
      case rel =>
        have h1 := unhide HS
        have h2 := unhide H2
        refine ⟨k + 1, by omega, by go_num, ?_, ?_, ?_⟩
        · rw [h2, h1, show (S + x) / 18446744073709551616 = S / 18446744073709551616 + (S % 18446744073709551616 + x) / 18446744073709551616 by omega]
          exact one_setCell ((Below.heap_setCell _ _ _ _ (by show w.heap.size ≠ w.heap.size + 1; omega)).trans ht)
        · rw [h2, h1]
          exact (Below.heap_setCell _ _ _ _ (by show w.heap.size + 1 ≠ w.heap.size; omega)).trans (one_setCell hr)
        · exact (hb.setCell (by show w.heap.size ≤ w.heap.size + 1; omega) _).setCell (by show w.heap.size ≤ w.heap.size; omega) _
      case measure => simp [intOf]; omega
    · have e : k = xs.length := by omega
      subst e
      have ct := cell_of_one ht
      have cr := cell_of_one hr
      go_wp2_with fail
      refine (narrow_any _ _ _ (by omega) (by omega)).mono ?_
      rintro e w1 ⟨rfl, rfl⟩
      go_wp2
      go_ret2
      exact ⟨sum_ret _ _ (by have := sumTo_all xs; omega), hb⟩
end Go.Proofs.Ytofmkhjdnmgdlaa
