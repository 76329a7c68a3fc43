/- The chapter's examples: awake returns true. And rows that come in: their first 66, and edges by their lowest six bits. -/
import Derived.Test.YtmogegacgmgkbaaMelBand
import Derived.Test.YtmogegacgmgkbaaMelEdge
namespace Go.Proofs.Ytmogegacgmgkbaa
open Go.RowKit
set_option linter.unusedVariables false

theorem wake_edges : edgesI 9 1 = [0, 4, 8] := by decide +kernel
theorem wake_w0 : weightI 3 2 4 8 = 128 := by decide +kernel
theorem wake_w1 : weightI 5 2 4 8 = 192 := by decide +kernel
set_option maxRecDepth 100000 in
theorem mel_awake (w : World) : Calls Try.prog 8 #[] w fun e w' => e = .returned (.bool true) ∧ Below w.heap.size w w' := by
  go_enter Try.func8, Try.ntmps8
  go_wp2_with fail
  refine (edges_any 9 1 w ⟨by omega, by omega⟩ ⟨by omega, by omega⟩).mono ?_
  intro e w1 hT
  rw [wake_edges] at hT
  obtain ⟨a, c, rfl, hl, hb⟩ := told_len hT (n := 3) rfl
  have HL := hide hl
  have HB := hide hb
  clear hl hb hT
  go_wp2_with fail
  refine (same_any a (some ⟨w1.heap.size, 0, none⟩) c 3 [0, 4, 8] 3 rfl (by decide) _ ((unhide HL).below (alloc_below _ _)) (lies_new w1 [0, 4, 8] _ rfl)).mono ?_
  rintro e w2 ⟨rfl, hb2⟩
  have HB2 := hide (below_trans (unhide HB) ((alloc_below w1 (.cells #[.int .i64 0, .int .i64 4, .int .i64 8] 3)).trans (hb2.mono (by simp))))
  clear hb2
  go_wp2_with fail
  refine (weight_any 3 2 4 8 w2 ⟨by omega, by omega⟩ ⟨by omega, by omega⟩ ⟨by omega, by omega⟩ ⟨by omega, by omega⟩).mono ?_
  rintro e w3 ⟨rfl, hb3⟩
  rw [wake_w0]
  have HB3 := hide (below_trans (unhide HB2) hb3)
  clear hb3
  go_wp2_with fail
  refine (weight_any 5 2 4 8 w3 ⟨by omega, by omega⟩ ⟨by omega, by omega⟩ ⟨by omega, by omega⟩ ⟨by omega, by omega⟩).mono ?_
  rintro e w4 ⟨rfl, hb4⟩
  rw [wake_w1]
  have HB4 := hide (below_trans (unhide HB3) hb4)
  clear hb4
  go_wp2_with fail
  go_ret
  exact ⟨rfl, unhide HB4⟩

/-! ### Rows that come in -/
theorem few66_no (a : Option Addr) (n cap : Nat) (w : World) (h : n ≤ 66) : Calls Try.prog 16 #[.slice a n cap] w fun e w' => e = .returned (.slice a n cap) ∧ w' = w := by
  go_enter Try.func16, Try.ntmps16
  go_wp2_with fail
  go_ret
  exact ⟨rfl, rfl⟩
theorem few66_yes (ad : Addr) (n cap : Nat) (w : World) (h : 66 < n) (h2 : n ≤ cap) (h3 : cap ≤ 9223372036854775807) : Calls Try.prog 16 #[.slice (some ad) n cap] w fun e w' => e = .returned (.slice (some ad) 66 cap) ∧ w' = w := by
  have hh : (66 : Int) < n := by omega
  have h66 : (66 : Int) ≤ cap := by omega
  go_enter Try.func16, Try.ntmps16
  go_wp2_with fail
  go_ret
  exact ⟨rfl, rfl⟩
theorem few66_came (a : Option Addr) (len cap : Nat) (zs : List Int) (w : World) (h : IsRow .i64 w a len cap zs) :
    ∃ (xs : List Int) (n : Nat), xs.length = n ∧ n ≤ 66 ∧ Lies w a xs ∧ Small xs ∧
      ∀ w', Calls Try.prog 16 #[.slice a len cap] w' fun e w'' => e = .returned (.slice a n cap) ∧ w'' = w' := by
  rcases h with ⟨rfl, rfl, rfl, rfl⟩ | ⟨x, rfl, hl, hm, hz, hcell, hwz⟩
  · exact ⟨[], 0, rfl, by omega, .inl rfl, by intro x hx; simp at hx, fun w' => few66_no none 0 0 w' (by omega)⟩
  · unfold maxLen at hm
    by_cases hlen : 66 < len
    · exact ⟨zs.take 66, 66, by simp; omega, by omega, lies_of_row 66 (by omega) hcell, small_take 66 hwz, fun w' => few66_yes x len cap w' hlen hl hm⟩
    · exact ⟨zs.take len, len, by simp; omega, by omega, lies_of_row len (by omega) hcell, small_take len hwz, fun w' => few66_no (some x) len cap w' (by omega)⟩
/-- Edges that come in: the first twelve. -/
theorem cut12_came (a : Option Addr) (len cap : Nat) (zs : List Int) (w : World) (h : IsRow .i64 w a len cap zs) :
    ∃ (ys : List Int) (m : Nat), ys.length = m ∧ m ≤ 12 ∧ (len = m ∨ m = 12 ∧ 12 < len) ∧ len ≤ 9223372036854775807 ∧ Lies w a ys := by
  rcases h with ⟨rfl, rfl, rfl, rfl⟩ | ⟨x, rfl, hl, hm, hz, hcell, hwz⟩
  · exact ⟨[], 0, rfl, by omega, .inl rfl, by omega, .inl rfl⟩
  · unfold maxLen at hm
    by_cases hlen : 12 < len
    · exact ⟨zs.take 12, 12, by simp; omega, by omega, .inr ⟨rfl, hlen⟩, by omega, lies_of_row 12 (by omega) hcell⟩
    · exact ⟨zs.take len, len, by simp; omega, by omega, .inl rfl, by omega, lies_of_row len (by omega) hcell⟩
/-- Edges by their lowest six bits. -/
def lowL (ys : List Int) (k : Nat) : List Int := mkL k fun i => ys.getD i 0 % 64
theorem lowL_len (ys : List Int) (k : Nat) : (lowL ys k).length = k := mkL_len _ _
theorem lowL_step (ys : List Int) (k : Nat) (z : Int) (hz : ys.getD k 0 = z) : ints (lowL ys (k + 1)) = ints (lowL ys k) ++ [.int .i64 (z % 64)] := by
  rw [← hz]; simp [ints, lowL, mkL, List.range_succ]
theorem lowL_bd (ys : List Int) (k i : Nat) : 0 ≤ (lowL ys k).getD i 0 ∧ (lowL ys k).getD i 0 ≤ 63 := by
  by_cases c : i < k
  · rw [lowL, mkL_at _ _ _ c]; omega
  · rw [List.getD_eq_getElem?_getD, List.getElem?_eq_none (by rw [lowL_len]; omega)]; simp
theorem lowL_small (ys : List Int) (k : Nat) : Small (lowL ys k) := by
  intro x hx
  obtain ⟨i, hi, rfl⟩ := List.getElem_of_mem hx
  have := lowL_bd ys k i
  rw [List.getD_eq_getElem?_getD, List.getElem?_eq_getElem hi] at this
  simp at this
  unfold In64; omega
theorem and63 (n : Int) : bits .and .i64 n 63 = n % 64 := i64_mask n 63 6 (by decide) (by decide)
end Go.Proofs.Ytmogegacgmgkbaa
