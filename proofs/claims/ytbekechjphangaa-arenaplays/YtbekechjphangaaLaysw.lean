/- The walk of ArenaLays: the law itself. -/
import Derived.Test.YtbekechjphangaaLays
namespace Go.Proofs.Ytbekechjphangaa
open Go.RowKit
set_option linter.unusedVariables false

theorem and1023 (n : Int) : bits .and .i64 n 1023 = n % 1024 := i64_mask n 1023 10 (by decide) (by decide)
theorem ints_snoc (L : List Int) (x : Int) : ints (L ++ [x]) = ints L ++ [Value.int .i64 x] := by simp [ints]
theorem take_next' (xs : List Int) (j : Nat) (h : j < xs.length) : xs.take (j + 1) = xs.take j ++ [xs.getD j 0] := by
  rw [List.take_succ_eq_append_getElem h, List.getD_eq_getElem?_getD, List.getElem?_eq_getElem h]; rfl

set_option maxHeartbeats 4000000 in
theorem lays_walk (a : Option Addr) (len cap n : Nat) (xs : List Int) (a2 : Option Addr) (len2 cap2 m : Nat) (ys : List Int) (w : World)
    (h1 : xs.length = n) (h2 : n ≤ 12) (h3 : n ≤ cap) (h4 : cap ≤ 9223372036854775807) (hl : Lies w a xs) (h7 : (len = n) ∨ (n = 12 ∧ 12 < len ∧ len ≤ cap ∧ ∃ x, a = some x))
    (k1 : ys.length = m) (k2 : m ≤ 12) (k3 : m ≤ cap2) (k4 : cap2 ≤ 9223372036854775807) (kl : Lies w a2 ys) (k7 : (len2 = m) ∨ (m = 12 ∧ 12 < len2 ∧ len2 ≤ cap2 ∧ ∃ x, a2 = some x)) :
    Calls Try.prog 4 #[.slice a len cap, .slice a2 len2 cap2] w fun e w' => e = .returned (.bool true) ∧ Below w.heap.size w w' := by
  obtain ⟨i0, hi, hz0, hz1, hz2⟩ := info_parts Try.info3
  have HI : Hid (Try.prog.info? 3 = some i0 ∧ i0.zero = some (.int .i64 0) ∧ i0.size = 1 ∧ i0.bytes = 8) := ⟨hi, hz0, hz1, hz2⟩
  have HL := hide hl
  have HX := hide h1
  have KL := hide kl
  have KX := hide k1
  have hm2 : m ≤ len2 := by rcases k7 with h | h <;> omega
  have hm3 : m < 12 → len2 = m := by intro h; rcases k7 with h' | h' <;> omega
  have HM3 := hide hm3
  clear hi hz0 hz1 hz2 hl h1 kl k1 hm3 k7
  go_enter Try.func4, Try.ntmps4
  go_wp2_with fail
  refine (awake_any _).mono ?_
  rintro e w1 ⟨rfl, hb⟩
  have HB := hide hb
  have HL1 := hide ((unhide HL).below hb)
  have KL1 := hide ((unhide KL).below hb)
  clear hb
  rcases h7 with rfl | ⟨rfl, h8, h9, x, rfl⟩
  case' inl =>
    have hle : (len : Int) ≤ 12 := by omega
    go_wp2
  case' inr =>
    have hle : (12 : Int) < len := by omega
    go_wp2
  all_goals (
    go_loopw [7, 6] (fun i v wr => ∃ (j : Nat) (P : List Int), j ≤ m ∧ i = .int .i64 (j : Int) ∧ Hid (P.length = j) ∧ Hid (wr.ownsRow w1.heap.size 3 1 v j (ints P)) ∧ Hid (Below w1.heap.size w1 wr)) (fun i _ _ => m - (intOf i).toNat)
    case atStart => exact ⟨0, [], by omega, rfl, rfl, World.ownsRow_nil _ _ _ _, Below.refl _ _⟩
    case round =>
      obtain ⟨j, P, hj, rfl, HP, HOwn, HBr⟩ := hrel
      by_cases hlt : j < m
      · have hkl : j < ys.length := by rw [unhide KX]; exact hlt
        have hl1 := (unhide KL1).below (unhide HBr)
        obtain ⟨b, off, rfl, hb, hc⟩ := hl1.some (by intro e; rw [e] at hkl; simp at hkl)
        have hck := hc j hkl
        generalize ys.getD j 0 = z at hck
        have hj1 : (j : Int) < len2 := by omega
        have hj2 : (j : Int) < 12 := by omega
        have ha := and1023 z
        clear hc hkl hb hl1
        go_wp2_with (at_builtin; refine wpList_append_own _ rfl _ _ 41 rfl w1.heap.size 3 i0 (.int .i64 0) 1 8 Try.underlying41 (unhide HI).1 (unhide HI).2.1 (unhide HI).2.2.1 (unhide HI).2.2.2 rfl (by decide) _ _ _ rfl ((unhide HOwn).alloc _) ⟨wr.heap.size, 0, none⟩ 1 1 [.int .i64 (z % 1024)] rfl rfl ?d1 ?d2 ?d3 ?d4 ?d5 ?_)
        case d1 => exact cell_one_new _ _ _
        case d2 => exact ints_one [(z % 1024 : Int)]
        case d3 => unfold maxLen; omega
        case d4 => omega
        case d5 => have := (unhide HBr).size; simp; omega
        intro v4 w4 hown4 hg4 _
        have hgr : ∀ q, Value.ownBlock _ = some q → w1.heap.size ≤ q := fun q hq => ((unhide HOwn).lt q hq).1
        have HB4 := hide (((unhide HBr).alloc (unhide HBr).size _).grown hg4 (by have := (unhide HBr).size; simp; omega) hgr)
        have HOwn4 := hide (show w4.ownsRow w1.heap.size 3 1 v4 (j + 1) (ints (P ++ [z % 1024])) by rw [ints_snoc]; exact hown4)
        clear hown4 hg4 hgr
        go_wp2
        go_roundw
        case rel => exact ⟨j + 1, P ++ [z % 1024], by omega, rfl, by show _ = _; rw [List.length_append, unhide HP]; rfl, HOwn4, HB4⟩
        case measure => simp [intOf]; omega
      · obtain rfl : j = m := by omega
        obtain ⟨a5, c5, rfl, hl5, hlen5⟩ := owned_lies (unhide HOwn)
        rw [hlen5]
        have HL5 := hide hl5
        have HBr' := hide (below_trans (unhide HB) (unhide HBr))
        clear hl5 hlen5 HOwn
        obtain ⟨w2, rfl⟩ : ∃ w2, w2 = wr := ⟨_, rfl⟩
        have HLr := hide ((unhide HL1).below (unhide HBr))
        have hfin : ¬ ((j : Int) < len2 ∧ (j : Int) < 12) := by
          rintro ⟨h1, h2⟩
          have := unhide HM3 (by omega)
          omega
        by_cases hjl : (j : Int) < len2
        case' pos => have hj12 : (12 : Int) ≤ j := by omega
        all_goals (
          clear hfin
          go_wp2_with fail
          refine (lays_any _ _ _ xs _ (unhide HLr) (unhide HX) (by omega)).mono ?_
          rintro e w3 ⟨rfl, hb⟩
          have HB3 := hide (below_trans (unhide HBr') hb)
          have HL6 := hide ((unhide HL5).below hb)
          clear hb
          go_wp2_with fail
          refine (lays_any _ _ _ P _ (unhide HL6) (unhide HP) (by omega)).mono ?_
          rintro e w4 ⟨rfl, hb⟩
          have HB4 := hide (below_trans (unhide HB3) hb)
          clear hb
          go_wp2
          go_ret
          exact ⟨rfl, unhide HB4⟩))
theorem lays_came (a : Option Addr) (len cap : Nat) (zs : List Int) (a2 : Option Addr) (len2 cap2 : Nat) (zs2 : List Int) (w : World) (h : IsRow .i64 w a len cap zs) (k : IsRow .i64 w a2 len2 cap2 zs2) :
    Calls Try.prog 4 #[.slice a len cap, .slice a2 len2 cap2] w fun e w' => e = .returned (.bool true) ∧ Below w.heap.size w w' := by
  obtain ⟨xs, n, h1, h2, h3, h4, h5, h6, h7⟩ := cutK_came 12 a len cap zs w h
  obtain ⟨ys, m, k1, k2, k3, k4, k5, k6, k7⟩ := cutK_came 12 a2 len2 cap2 zs2 w k
  exact lays_walk a len cap n xs a2 len2 cap2 m ys w h1 h2 h3 h4 h5 h7 k1 k2 k3 k4 k5 k7
end Go.Proofs.Ytbekechjphangaa
