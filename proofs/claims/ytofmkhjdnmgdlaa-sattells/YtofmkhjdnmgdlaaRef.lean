/- Contracts of the document's answers for layer 1: they say what the plain integers say. -/
import Derived.Test.YtofmkhjdnmgdlaaMulw
import Derived.Test.YtofmkhjdnmgdlaaOrder
import Derived.Test.YtofmkhjdnmgdlaaAdds
namespace Go.Proofs.Ytofmkhjdnmgdlaa
open Go.RowKit
set_option linter.unusedVariables false

set_option maxHeartbeats 400000 in
theorem rsat_any (x b : Int) (w : World) :
    Calls Try.prog 26 #[.int .i64 x, .int .i64 b] w fun e w' => e = .returned (.int .i64 (sat0 x b)) ∧ w' = w := by
  by_cases hb : 1 ≤ b ∧ b ≤ 64
  · have hm : decide (1 ≤ b ∧ b ≤ 64) = true := decide_eq_true hb
    have Hm := hide hm
    have Hv := hide (show sat0 x b = clampI x (-(pw b)) (-1 + pw b) by unfold sat0; rw [if_pos hb]; unfold satI; rw [show -1 + pw b = pw b - 1 by omega])
    obtain ⟨h1, h2⟩ := hb
    have hp := pw_pos b
    have hq := pw_le b h2
    clear hm
    go_enter Try.func26, Try.ntmps26
    go_wp2_with fail
    refine (may_any _ _).mono ?_
    rintro e w' ⟨rfl, rfl⟩
    rw [unhide Hm]
    go_wp2_with fail
    refine (low_any _ _ h1 h2).mono ?_
    rintro e w' ⟨rfl, rfl⟩
    go_wp2_with fail
    refine (rclamp_any _ _ _ _).mono ?_
    rintro e w' ⟨rfl, rfl⟩
    go_wp2
    go_ret
    exact ⟨ret_int (unhide Hv).symm, rfl⟩
  · have hm : decide (1 ≤ b ∧ b ≤ 64) = false := decide_eq_false hb
    have Hm := hide hm
    have Hv := hide (show sat0 x b = 0 by unfold sat0; rw [if_neg hb])
    clear hm
    go_enter Try.func26, Try.ntmps26
    go_wp2_with fail
    refine (may_any _ _).mono ?_
    rintro e w' ⟨rfl, rfl⟩
    rw [unhide Hm]
    go_wp2
    go_ret
    exact ⟨ret_int (unhide Hv).symm, rfl⟩

set_option maxHeartbeats 400000 in
theorem rfits_any (x b : Int) (w : World) :
    Calls Try.prog 25 #[.int .i64 x, .int .i64 b] w fun e w' => e = .returned (.bool (fitsB x b)) ∧ w' = w := by
  by_cases hb : 1 ≤ b ∧ b ≤ 64
  · have Hm := hide (show decide (1 ≤ b ∧ b ≤ 64) = true from decide_eq_true hb)
    have Hv := hide (show fitsB x b = (sat0 x b == x) by rw [fits_iff x b hb.1 hb.2, sat0_eq x b hb.1 hb.2])
    clear hb
    go_enter Try.func25, Try.ntmps25
    go_wp2_with fail
    refine (may_any _ _).mono ?_
    rintro e w' ⟨rfl, rfl⟩
    rw [unhide Hm]
    go_wp2_with fail
    refine (rsat_any _ _ _).mono ?_
    rintro e w' ⟨rfl, rfl⟩
    go_wp2
    go_ret
    exact ⟨ret_bool (unhide Hv).symm, rfl⟩
  · have Hm := hide (show decide (1 ≤ b ∧ b ≤ 64) = false from decide_eq_false hb)
    have Hv := hide (show fitsB x b = false by unfold fitsB; exact decide_eq_false (by omega))
    clear hb
    go_enter Try.func25, Try.ntmps25
    go_wp2_with fail
    refine (may_any _ _).mono ?_
    rintro e w' ⟨rfl, rfl⟩
    rw [unhide Hm]
    go_wp2
    go_ret
    exact ⟨ret_bool (unhide Hv).symm, rfl⟩

def add0To (b : Int) (xs : List Int) (k : Nat) : Int := if 1 ≤ b ∧ b ≤ 64 then addTo b xs k else 0
theorem add0To_in (b : Int) (xs : List Int) (k : Nat) : In64 (add0To b xs k) := by
  unfold add0To
  split
  · rename_i h; exact addTo_in64 b xs k h.2
  · exact ⟨by decide, by decide⟩
theorem add0To_succ (b : Int) (xs : List Int) (k : Nat) (h : k < xs.length) : add0To b xs (k + 1) = sat0 (plusI (add0To b xs k) (xs.getD k 0)) b := by
  unfold add0To sat0
  split
  · rename_i hb; rw [addTo_succ b xs k h, ← clamp_plus _ _ _ hb.2]; rfl
  · rfl
theorem add0To_all (b : Int) (xs : List Int) : add0To b xs xs.length = add0 b xs := by unfold add0To add0; rw [addTo_all]
theorem add0To_zero (b : Int) (xs : List Int) : add0To b xs 0 = 0 := by unfold add0To; split <;> rfl

set_option maxHeartbeats 1000000 in
theorem radd_any (a : Option Addr) (cap : Nat) (b : Int) (xs : List Int) (w : World) (hl : Lies w a xs) (hs : Small xs) (hn : xs.length ≤ 1000000) :
    Calls Try.prog 27 #[.int .i64 b, .slice a xs.length cap] w fun e w' => e = .returned (.int .i64 (add0 b xs)) ∧ w' = w := by
  go_enter Try.func27, Try.ntmps27
  go_wp2
  go_loopw [5, 6] (fun n i wr => ∃ k : Nat, k ≤ xs.length ∧ i = .int .i64 k ∧ n = .int .i64 (add0To b xs k) ∧ wr = w) (fun _ i _ => xs.length - (intOf i).toNat)
  case atStart => exact ⟨0, Nat.zero_le _, rfl, by rw [add0To_zero], rfl⟩
  case round =>
    obtain ⟨k, hk, rfl, rfl, rfl⟩ := hrel
    by_cases hlt : k < xs.length
    · rcases hl with rfl | ⟨ba, off, rfl, hblt, hcells⟩
      · simp at hlt
      have hc := hcells k hlt
      have hx := hs.at k hlt
      have hsucc := add0To_succ b xs k hlt
      have hin := add0To_in b xs k
      generalize xs.getD k 0 = z at *
      generalize hA : add0To b xs k = A at *
      have HS := hide hsucc
      have HA := hide hA
      clear hsucc hA hcells
      go_wp2_with fail
      refine (rplus_any _ _ _ hin hx).mono ?_
      rintro e w1 ⟨rfl, rfl⟩
      go_wp2_with fail
      refine (rsat_any _ _ _).mono ?_
      rintro e w1 ⟨rfl, rfl⟩
      go_wp2
      go_roundw
      case rel => exact ⟨k + 1, by omega, by go_num, by rw [unhide HS], trivial⟩
      case measure => simp [intOf]; omega
    · have e : k = xs.length := by omega
      have HE := hide (show add0To b xs k = add0 b xs by rw [e, add0To_all])
      go_wp2
      go_ret
      exact ⟨ret_int (unhide HE), rfl⟩

def hiTo (xs : List Int) (k : Nat) : Int := ((xs.take k).map (· / 4294967296)).sum
def loTo (xs : List Int) (k : Nat) : Int := ((xs.take k).map (· % 4294967296)).sum
theorem hiTo_succ (xs : List Int) (k : Nat) (h : k < xs.length) : hiTo xs (k + 1) = hiTo xs k + xs.getD k 0 / 4294967296 := by
  unfold hiTo
  rw [List.take_succ_eq_append_getElem h, List.map_append, List.sum_append]
  simp [List.getD_eq_getElem?_getD, List.getElem?_eq_getElem h]
theorem loTo_succ (xs : List Int) (k : Nat) (h : k < xs.length) : loTo xs (k + 1) = loTo xs k + xs.getD k 0 % 4294967296 := by
  unfold loTo
  rw [List.take_succ_eq_append_getElem h, List.map_append, List.sum_append]
  simp [List.getD_eq_getElem?_getD, List.getElem?_eq_getElem h]
theorem hilo (xs : List Int) (h : Small xs) (k : Nat) (hk : k ≤ xs.length) : hiTo xs k * 4294967296 + loTo xs k = sumTo xs k ∧ -(2147483648 * (k : Int)) ≤ hiTo xs k ∧ hiTo xs k ≤ 2147483648 * (k : Int) ∧ 0 ≤ loTo xs k ∧ loTo xs k ≤ 4294967296 * (k : Int) := by
  induction k with
  | zero => simp [hiTo, loTo, sumTo]
  | succ k ih =>
    have h1 := ih (by omega)
    obtain ⟨h3, h4⟩ := h.at k (by omega)
    rw [hiTo_succ xs k (by omega), loTo_succ xs k (by omega), sumTo_succ xs k (by omega)]
    omega

theorem rsum_val (A B S : Int) (h : A * 4294967296 + B = S) (h1 : -2147483648 ≤ A + B / 4294967296) (h2 : A + B / 4294967296 ≤ 2147483647) : wrap64 ((A + B / 4294967296) * 4294967296 + B % 4294967296) = S := by
  have e : (A + B / 4294967296) * 4294967296 + B % 4294967296 = S := by omega
  rw [e]
  exact w64_in ⟨by omega, by omega⟩

set_option maxHeartbeats 1000000 in
theorem rsum_any (a : Option Addr) (cap : Nat) (xs : List Int) (w : World) (hl : Lies w a xs) (hs : Small xs) (hn : xs.length ≤ 1000000) :
    Calls Try.prog 11 #[.slice a xs.length cap] w fun e w' => e = .returned (.agg #[.int .i64 (num64 xs.sum), .bool (ok64 xs.sum)]) ∧ Below w.heap.size w w' := by
  go_enter Try.func11, Try.ntmps11
  go_wp2
  go_loopw [3, 4, 5] (fun h l i wr => ∃ k : Nat, k ≤ xs.length ∧ i = .int .i64 k ∧ h = .int .i64 (hiTo xs k) ∧ l = .int .i64 (loTo xs k) ∧ wr = w.alloc (.cells #[.int .i64 0, .bool false] 29)) (fun _ _ i _ => xs.length - (intOf i).toNat)
  case atStart => exact ⟨0, Nat.zero_le _, rfl, rfl, rfl, rfl⟩
  case round =>
    obtain ⟨k, hk, rfl, rfl, rfl, rfl⟩ := hrel
    have hh := hilo xs hs k hk
    by_cases hlt : k < xs.length
    · rcases hl with rfl | ⟨ba, off, rfl, hblt, hcells⟩
      · simp at hlt
      have hc : (w.alloc (.cells #[.int .i64 0, .bool false] 29)).cell? ⟨ba, off + k, none⟩ = some (.int .i64 (xs.getD k 0)) := by
        rw [World.cell?_alloc_past _ _ _ hblt]; exact hcells k hlt
      obtain ⟨hx1, hx2⟩ := hs.at k hlt
      have e1 := hiTo_succ xs k hlt
      have e2 := loTo_succ xs k hlt
      generalize xs.getD k 0 = z at *
      generalize hiTo xs k = A at *
      generalize loTo xs k = B at *
      obtain ⟨_, hh1, hh2, hh3, hh4⟩ := hh
      have HM := hide (i64_and_low32 z)
      have E1 := hide e1
      have E2 := hide e2
      have hm0 := Int.emod_nonneg z (b := 4294967296) (by decide)
      have hm1 := Int.emod_lt_of_pos z (b := 4294967296) (by decide)
      clear e1 e2 hcells
      go_wp2
      go_roundw
      case rel => exact ⟨k + 1, by omega, by go_num, by rw [unhide E1], by rw [unhide E2, unhide HM, w64_in ⟨by omega, by omega⟩], trivial⟩
      case measure => simp [intOf]; omega
    · have e : k = xs.length := by omega
      have hS := sumTo_all xs
      rw [← e] at hS
      rw [hS] at hh
      generalize hiTo xs k = A at *
      generalize loTo xs k = B at *
      obtain ⟨hh0, hh1, hh2, hh3, hh4⟩ := hh
      have HH := hide hh0
      clear hh0
      have HM := hide (i64_and_low32 B)
      by_cases c1 : A + B / 4294967296 < -2147483648
      · have Hv := hide (num_out xs.sum (fun h => by have := unhide HH; obtain ⟨q1, q2⟩ := h; omega))
        go_wp2
        exact bodyPost_ret (v := .agg #[.int .i64 0, .bool false]) (by simp [results, Try.results11, go_sem]) rfl ⟨by rw [(unhide Hv).1, (unhide Hv).2], (Below.refl _ _).alloc (Nat.le_refl _) _⟩
      by_cases c2 : 2147483647 < A + B / 4294967296
      · have Hv := hide (num_out xs.sum (fun h => by have := unhide HH; obtain ⟨q1, q2⟩ := h; omega))
        go_wp2
        exact bodyPost_ret (v := .agg #[.int .i64 0, .bool false]) (by simp [results, Try.results11, go_sem]) rfl ⟨by rw [(unhide Hv).1, (unhide Hv).2], (Below.refl _ _).alloc (Nat.le_refl _) _⟩
      · have Hv := hide (num_in xs.sum ⟨by have := unhide HH; omega, by have := unhide HH; omega⟩)
        go_wp2
        exact bodyPost_ret (v := .agg #[.int .i64 (wrap64 ((A + B / 4294967296) * 4294967296 + bits BinOp.and IntKind.i64 B 4294967295)), .bool true]) (by simp [results, Try.results11, go_sem]) rfl ⟨by rw [(unhide Hv).1, (unhide Hv).2, unhide HM, rsum_val A B _ (unhide HH) (by omega) (by omega)], (Below.refl _ _).alloc (Nat.le_refl _) _⟩

theorem rmul_out (a b : Int) (ha : In64 a) (hb : In64 b) (b0 : ¬ b = 0) (hx : ¬ (b = -1 ∧ a = -9223372036854775808)) (hin : ¬ In64 (a * b)) : ¬ wrap64 ((wrap64 (a * b)).tdiv b) = a := by
  intro he
  have hw : In64 (wrap64 (a * b)) := by unfold wrap64; exact ⟨by omega, by omega⟩
  have hmod : ∃ q : Int, wrap64 (a * b) = a * b + q * 18446744073709551616 := ⟨-((a * b + 9223372036854775808) / 18446744073709551616), by unfold wrap64; omega⟩
  generalize hP : a * b = P at *
  generalize wrap64 P = n at *
  obtain ⟨q, hq⟩ := hmod
  have h1 := Int.mul_tdiv_add_tmod n b
  have h2 : (n.tmod b).natAbs < b.natAbs := by
    rw [Int.natAbs_tmod]; exact Nat.mod_lt _ (by omega)
  have h3 : (n.tdiv b).natAbs ≤ n.natAbs := Int.natAbs_tdiv_le_natAbs n b
  obtain ⟨w1, w2⟩ := hw
  obtain ⟨a1, a2⟩ := ha
  obtain ⟨b1, b2⟩ := hb
  have hd : n.tdiv b = a ∨ (n.tdiv b = 9223372036854775808 ∧ a = -9223372036854775808) := by
    unfold wrap64 at he; omega
  rcases hd with hd | ⟨hd, ha'⟩
  · rw [hd, Int.mul_comm b a, hP] at h1
    have : ¬ q = 0 := fun h => by subst h; exact hin ⟨by omega, by omega⟩
    omega
  · have hb1 : b = -1 := by
      rw [hd] at h1
      rcases Int.lt_or_le b (-1) with h | h
      · omega
      · rcases Int.lt_or_le 0 b with h' | h'
        · omega
        · omega
    exact hx ⟨hb1, ha'⟩

set_option maxHeartbeats 1000000 in
theorem rmul_any (a b : Int) (w : World) (ha : In64 a) (hb : In64 b) :
    Calls Try.prog 13 #[.int .i64 a, .int .i64 b] w fun e w' => e = .returned (.agg #[.int .i64 (num64 (a * b)), .bool (ok64 (a * b))]) ∧ Below w.heap.size w w' := by
  by_cases a0 : a = 0
  · subst a0
    rw [Int.zero_mul, show num64 0 = 0 by decide, show ok64 0 = true by decide]
    go_enter Try.func13, Try.ntmps13
    go_wp2
    exact bodyPost_ret (v := .agg #[.int .i64 0, .bool true]) (by simp [results, Try.results13, go_sem]) rfl ⟨rfl, (Below.refl _ _).alloc (Nat.le_refl _) _⟩
  have a0' : (a == 0) = false := by simpa using a0
  by_cases b0 : b = 0
  · subst b0
    rw [Int.mul_zero, show num64 0 = 0 by decide, show ok64 0 = true by decide]
    go_enter Try.func13, Try.ntmps13
    go_wp2
    exact bodyPost_ret (v := .agg #[.int .i64 0, .bool true]) (by simp [results, Try.results13, go_sem]) rfl ⟨rfl, (Below.refl _ _).alloc (Nat.le_refl _) _⟩
  have b0' : (b == 0) = false := by simpa using b0
  by_cases hx1 : a = -1 ∧ b = -9223372036854775808
  · obtain ⟨rfl, rfl⟩ := hx1
    rw [show num64 (-1 * -9223372036854775808) = 0 by decide, show ok64 (-1 * -9223372036854775808) = false by decide]
    go_enter Try.func13, Try.ntmps13
    go_wp2
    exact bodyPost_ret (v := .agg #[.int .i64 0, .bool false]) (by simp [results, Try.results13, go_sem]) rfl ⟨rfl, (Below.refl _ _).alloc (Nat.le_refl _) _⟩
  by_cases hx2 : b = -1 ∧ a = -9223372036854775808
  · obtain ⟨rfl, rfl⟩ := hx2
    rw [show num64 (-9223372036854775808 * -1) = 0 by decide, show ok64 (-9223372036854775808 * -1) = false by decide]
    go_enter Try.func13, Try.ntmps13
    go_wp2
    exact bodyPost_ret (v := .agg #[.int .i64 0, .bool false]) (by simp [results, Try.results13, go_sem]) rfl ⟨rfl, (Below.refl _ _).alloc (Nat.le_refl _) _⟩
  have hg : ((a == -1) = true ∧ (b == -9223372036854775808) = false ∧ (b == -1) = true ∧ (a == -9223372036854775808) = false) ∨ ((a == -1) = true ∧ (b == -9223372036854775808) = false ∧ (b == -1) = false) ∨ ((a == -1) = false ∧ (b == -1) = true ∧ (a == -9223372036854775808) = false) ∨ ((a == -1) = false ∧ (b == -1) = false) := by
    simp only [beq_iff_eq, beq_eq_false_iff_ne, ne_eq]
    omega
  by_cases hin : In64 (a * b)
  · have hv := num_in _ hin
    have hwP : wrap64 (a * b) = a * b := w64_in hin
    have hwa : wrap64 a = a := w64_in ha
    have htd : (a * b).tdiv b = a := Int.mul_tdiv_cancel a b0
    rw [hv.1, hv.2]
    clear hv hin hx1 hx2
    rcases hg with ⟨g1, g2, g3, g4⟩ | ⟨g1, g2, g3⟩ | ⟨g1, g2, g3⟩ | ⟨g1, g2⟩
    all_goals
      go_enter Try.func13, Try.ntmps13
      go_wp2
      exact bodyPost_ret (v := .agg #[.int .i64 (a * b), .bool true]) (by simp [results, Try.results13, go_sem]) rfl ⟨rfl, (Below.refl _ _).alloc (Nat.le_refl _) _⟩
  · have hv := num_out _ hin
    have hno := rmul_out a b ha hb b0 hx2 hin
    rw [hv.1, hv.2]
    clear hv hin hx1 hx2
    rcases hg with ⟨g1, g2, g3, g4⟩ | ⟨g1, g2, g3⟩ | ⟨g1, g2, g3⟩ | ⟨g1, g2⟩
    all_goals
      go_enter Try.func13, Try.ntmps13
      go_wp2
      exact bodyPost_ret (v := .agg #[.int .i64 0, .bool false]) (by simp [results, Try.results13, go_sem]) rfl ⟨rfl, (Below.refl _ _).alloc (Nat.le_refl _) _⟩

end Go.Proofs.Ytofmkhjdnmgdlaa
