/- Contracts of package round's Parts, divided, Div, Half: what plain integers say. -/
import Derived.Test.YtgfdiafeminofaaBase
namespace Go.Proofs.Ytgfdiafeminofaa
open Go.RowKit
set_option linter.unusedVariables false

def quoI (x n : Int) : Int := if n < 1 then 0 else x / n
def remI (x n : Int) : Int := if n < 1 then 0 else x % n
def divI (x n : Int) : Int := if n < 1 then 0 else if n - x % n ≤ x % n then x / n + 1 else x / n

theorem quoI_pos (x n : Int) (h : 1 ≤ n) : quoI x n = x / n := by unfold quoI; rw [if_neg (by omega)]
theorem remI_pos (x n : Int) (h : 1 ≤ n) : remI x n = x % n := by unfold remI; rw [if_neg (by omega)]
theorem quoI_no (x n : Int) (h : n < 1) : quoI x n = 0 := by unfold quoI; rw [if_pos h]
theorem remI_no (x n : Int) (h : n < 1) : remI x n = 0 := by unfold remI; rw [if_pos h]
theorem divI_no (x n : Int) (h : n < 1) : divI x n = 0 := by unfold divI; rw [if_pos h]

theorem tq_neg (x n : Int) (h : 1 ≤ n) (hr : x.tmod n < 0) : x.tdiv n = x / n + 1 ∧ x.tmod n = x % n - n := by
  have h1 := Int.mul_tdiv_add_tmod x n
  have h2 := Int.lt_tmod_of_pos x (b := n) (by omega)
  have h3 : x = (x.tmod n + n) + (x.tdiv n - 1) * n := by
    rw [Int.sub_mul, Int.mul_comm (x.tdiv n) n]; omega
  have h4 : x / n = x.tdiv n - 1 := by
    conv => lhs; rw [h3]
    rw [Int.add_mul_ediv_right _ _ (by omega), Int.ediv_eq_zero_of_lt (by omega) (by omega)]; omega
  have h5 : x % n = x.tmod n + n := by
    conv => lhs; rw [h3]
    rw [Int.add_mul_emod_self_right, Int.emod_eq_of_lt (by omega) (by omega)]
  omega
theorem tq_pos (x n : Int) (h : 1 ≤ n) (hr : ¬ x.tmod n < 0) : x.tdiv n = x / n ∧ x.tmod n = x % n := by
  have h1 := Int.mul_tdiv_add_tmod x n
  have h2 := Int.tmod_lt_of_pos x (b := n) (by omega)
  have h3 : x = x.tmod n + x.tdiv n * n := by
    rw [Int.mul_comm (x.tdiv n) n]; omega
  have h4 : x / n = x.tdiv n := by
    conv => lhs; rw [h3]
    rw [Int.add_mul_ediv_right _ _ (by omega), Int.ediv_eq_zero_of_lt (by omega) (by omega)]; omega
  have h5 : x % n = x.tmod n := by
    conv => lhs; rw [h3]
    rw [Int.add_mul_emod_self_right, Int.emod_eq_of_lt (by omega) (by omega)]
  omega
theorem quo_in (x n : Int) (h : 1 ≤ n) (hx : In64 x) : In64 (x / n) := by
  obtain ⟨h1, h2⟩ := hx
  refine ⟨?_, ?_⟩
  · rw [Int.le_ediv_iff_mul_le (by omega)]
    omega
  · have h3 : x / n < 9223372036854775808 := by
      rw [Int.ediv_lt_iff_lt_mul (by omega)]
      omega
    omega
theorem rem_bd (x n : Int) (h : 1 ≤ n) : 0 ≤ x % n ∧ x % n < n := ⟨Int.emod_nonneg _ (by omega), Int.emod_lt_of_pos _ (by omega)⟩

theorem tq_bd (x n : Int) (h : 1 ≤ n) (hr : x.tmod n < 0) (hx : In64 x) : -9223372036854775808 ≤ x.tdiv n - 1 ∧ x.tdiv n ≤ 9223372036854775807 := by
  have hx0 : x < 0 := by
    rcases Int.lt_or_le x 0 with h | h
    · exact h
    · have := Int.tmod_nonneg n h; omega
  have h5 : x / n < 0 := by rw [Int.ediv_lt_iff_lt_mul (by omega)]; omega
  have h6 := (quo_in x n h hx).1
  rw [(tq_neg x n h hr).1]
  omega

set_option maxHeartbeats 1000000 in
theorem parts_any (x n : Int) (w : World) (hx : In64 x) (hn : In64 n) :
    Calls Try.prog 17 #[.int .i64 x, .int .i64 n] w fun e w' => e = .returned (.tuple #[.int .i64 (quoI x n), .int .i64 (remI x n)]) ∧ Below w.heap.size w w' := by
  by_cases c : n < 1
  · have H := hide (And.intro (quoI_no x n c) (remI_no x n c))
    go_enter Try.func17, Try.ntmps17
    go_wp2
    go_ret2
    exact ⟨ret_ii ⟨(unhide H).1.symm, (unhide H).2.symm⟩, Below.refl _ _⟩
  · have hn1 : 1 ≤ n := by omega
    have n0 : (n == 0) = false := by simp; omega
    have n0' : ¬ n = 0 := by omega
    have H := hide (And.intro (quoI_pos x n hn1) (remI_pos x n hn1))
    have Hq := hide (quo_in x n hn1 hx)
    have Hr := hide (rem_bd x n hn1)
    have hmr1 := Int.tmod_lt_of_pos x (b := n) (by omega)
    have hmr2 := Int.lt_tmod_of_pos x (b := n) (by omega)
    obtain ⟨h1, h2⟩ := hx
    obtain ⟨h3, h4⟩ := hn
    by_cases hr : x.tmod n < 0
    · have T := tq_neg x n hn1 hr
      have H1 := hide T.1
      have H2 := hide T.2
      have hb := (tq_bd x n hn1 hr ⟨h1, h2⟩).1
      have hb' := (tq_bd x n hn1 hr ⟨h1, h2⟩).2
      clear T
      have HV := hide (show x.tdiv n - 1 = quoI x n ∧ x.tmod n + n = remI x n by rw [(unhide H).1, (unhide H).2, unhide H1, unhide H2]; omega)
      go_enter Try.func17, Try.ntmps17
      go_wp2
      go_region
      go_wp2
      go_ret2
      exact ⟨ret_ii ⟨(unhide HV).1, (unhide HV).2⟩, (Below.refl _ w).drew⟩
    · have T := tq_pos x n hn1 hr
      have hb := quo_in x n hn1 ⟨h1, h2⟩
      rw [← T.1] at hb
      obtain ⟨hb1, hb2⟩ := hb
      have HV := hide (show x.tdiv n = quoI x n ∧ x.tmod n = remI x n by rw [(unhide H).1, (unhide H).2]; exact T)
      clear T
      go_enter Try.func17, Try.ntmps17
      go_wp2
      go_region
      go_wp2
      go_ret2
      exact ⟨ret_ii ⟨(unhide HV).1, (unhide HV).2⟩, (Below.refl _ w).drew⟩

set_option maxHeartbeats 1000000 in
theorem up_any (l n : Int) (b : Nat) (w : World) (hn : 1 ≤ n) (hn2 : n ≤ 9223372036854775807) (h0 : 0 ≤ l) (h1 : l < n) (hc : w.heap[b]? = some (.cells #[.int .i64 n] 3 (0, 0))) :
    Calls Try.prog 28 #[.int .i64 l, .pointer (some ⟨b, 0, none⟩)] w fun e w' => e = .returned (.bool (decide (n - l ≤ l))) ∧ w' = w := by
  have cr := cell_of_one hc
  go_enter Try.func28, Try.ntmps28
  go_wp2
  go_ret
  exact ⟨ret_bool rfl, rfl⟩

theorem divI_up (x n : Int) (h : 1 ≤ n) (c : n - x % n ≤ x % n) : divI x n = x / n + 1 := by unfold divI; rw [if_neg (by omega), if_pos c]
theorem divI_down (x n : Int) (h : 1 ≤ n) (c : ¬ n - x % n ≤ x % n) : divI x n = x / n := by unfold divI; rw [if_neg (by omega), if_neg c]

theorem up_bd (x n : Int) (h : 1 ≤ n) (hx : In64 x) (c : n - x % n ≤ x % n) : x / n + 1 ≤ 9223372036854775807 := by
  obtain ⟨h1, h2⟩ := hx
  have h3 := rem_bd x n h
  have h4 := Int.mul_ediv_add_emod x n
  rcases Int.lt_or_le n 2 with hn | hn
  · omega
  · have h5 : x / n < 9223372036854775807 := by
      rw [Int.ediv_lt_iff_lt_mul (by omega)]; omega
    omega

set_option maxHeartbeats 1000000 in
theorem divided_any (x n : Int) (b : Nat) (w : World) (hx : In64 x) (hn : 1 ≤ n) (hn2 : n ≤ 9223372036854775807) (hc : w.heap[b]? = some (.cells #[.int .i64 n] 3 (0, 0))) :
    Calls Try.prog 29 #[.int .i64 x, .int .i64 n, .func (.func 28) #[] #[.pointer (some ⟨b, 0, none⟩)]] w fun e w' => e = .returned (.int .i64 (divI x n)) ∧ Below w.heap.size w w' := by
  have hlt : b < w.heap.size := (Array.getElem?_eq_some_iff.1 hc).1
  have hr := rem_bd x n hn
  have hq := quo_in x n hn hx
  obtain ⟨hr1, hr2⟩ := hr
  by_cases c : n - x % n ≤ x % n
  · have HV := hide (divI_up x n hn c)
    have hu := up_bd x n hn hx c
    obtain ⟨hq1, hq2⟩ := hq
    go_enter Try.func29, Try.ntmps29
    go_wp2_with fail
    refine (parts_any _ _ _ hx ⟨by omega, by omega⟩).mono ?_
    rintro e w1 ⟨rfl, hb1⟩
    have hc1 := (hb1.block b hlt).trans hc
    rw [quoI_pos x n hn, remI_pos x n hn]
    go_wp2_with fail
    refine (up_any (x % n) n b _ hn hn2 hr1 hr2 hc1).mono ?_
    rintro e w' ⟨rfl, rfl⟩
    go_wp2
    go_ret
    exact ⟨ret_int (unhide HV).symm, hb1⟩
  · have HV := hide (divI_down x n hn c)
    go_enter Try.func29, Try.ntmps29
    go_wp2_with fail
    refine (parts_any _ _ _ hx ⟨by omega, by omega⟩).mono ?_
    rintro e w1 ⟨rfl, hb1⟩
    have hc1 := (hb1.block b hlt).trans hc
    rw [quoI_pos x n hn, remI_pos x n hn]
    go_wp2_with fail
    refine (up_any (x % n) n b _ hn hn2 hr1 hr2 hc1).mono ?_
    rintro e w' ⟨rfl, rfl⟩
    rw [decide_eq_false (by omega : ¬ n - x % n ≤ x % n)]
    go_wp2
    go_ret
    exact ⟨ret_int (unhide HV).symm, hb1⟩

set_option maxHeartbeats 1000000 in
theorem div_any (x n : Int) (w : World) (hx : In64 x) (hn : In64 n) :
    Calls Try.prog 15 #[.int .i64 x, .int .i64 n] w fun e w' => e = .returned (.int .i64 (divI x n)) ∧ Below w.heap.size w w' := by
  have hmf : ∀ (fn : Fn) (first cap : Array Value) (w : World), (Instr.makeFunc fn first cap).run Try.prog w = .ok (.func fn first cap) w := fun _ _ _ _ => rfl
  have ha : (w.alloc (.cells #[.int .i64 n] 3)).heap[w.heap.size]? = some (.cells #[.int .i64 n] 3 (0, 0)) := heap_alloc_new _ _
  by_cases c : n < 1
  · have HV := hide (divI_no x n c)
    go_enter Try.func15, Try.ntmps15
    go_wp2
    go_ret
    exact ⟨ret_int (unhide HV).symm, (Below.refl _ w).alloc (Nat.le_refl _) _⟩
  · go_enter Try.func15, Try.ntmps15
    go_wp2_with fail
    refine (divided_any x n w.heap.size _ hx (by omega) hn.2 ha).mono ?_
    rintro e w' ⟨rfl, hb1⟩
    go_wp2
    go_ret
    exact ⟨rfl, ((Below.refl _ w).alloc (Nat.le_refl _) _).trans (hb1.mono (by simp))⟩
end Go.Proofs.Ytgfdiafeminofaa
