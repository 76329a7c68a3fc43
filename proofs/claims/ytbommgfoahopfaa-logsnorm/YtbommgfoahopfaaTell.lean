/- The walk of LogsTell. -/
import Derived.Test.YtbommgfoahopfaaWake
namespace Go.Proofs.Ytbommgfoahopfaa
open Go.RowKit
set_option linter.unusedVariables false

/-- A row that came, and its first forty: as it is, or cut. -/
theorem cut_came (a : Option Addr) (len cap : Nat) (zs : List Int) (w : World) (h : IsRow .i64 w a len cap zs) :
    ∃ (xs : List Int) (N : Nat), xs.length = N ∧ N ≤ 40 ∧ N ≤ cap ∧ cap ≤ 9223372036854775807 ∧ Lies w a xs ∧ Small xs ∧ ((len = N) ∨ (40 < len ∧ N = 40 ∧ ∃ ad, a = some ad)) := by
  rcases h with ⟨rfl, rfl, rfl, rfl⟩ | ⟨x, rfl, hl, hm, hz, hcell, hwz⟩
  · exact ⟨[], 0, rfl, by omega, by omega, by omega, .inl rfl, by intro x hx; simp at hx, .inl rfl⟩
  · unfold maxLen at hm
    by_cases hlen : 40 < len
    · exact ⟨zs.take 40, 40, by simp; omega, by omega, by omega, hm, lies_of_row 40 (by omega) hcell, small_take 40 hwz, .inr ⟨hlen, rfl, x, rfl⟩⟩
    · exact ⟨zs.take len, len, by simp; omega, by omega, by omega, hm, lies_of_row len (by omega) hcell, small_take len hwz, .inl rfl⟩

set_option maxRecDepth 100000 in
set_option maxHeartbeats 4000000 in
theorem tell_walk (x : Int) (a : Option Addr) (len cap : Nat) (zs : List Int) (w : World) (hx : U64 x) (hrow : IsRow .i64 w a len cap zs) :
    Calls Try.prog 3 #[.int .u64 x, .slice a len cap] w fun e w' => e = .returned (.bool true) ∧ Below w.heap.size w w' := by
  obtain ⟨xs, N, hN, h40, hcap, hmax, hl, hs, hcase⟩ := cut_came a len cap zs w hrow
  clear hrow
  have HN := hide hN
  clear hN
  have h40c : (N : Int) ≤ (cap : Int) := by omega
  rcases hcase with rfl | ⟨hlen, rfl, ad, rfl⟩
  case' inl => have hlen : ¬ ((40 : Int) < (len : Int)) := by omega
  case' inr => have hlen' : (40 : Int) < (len : Int) := by omega
  all_goals
    go_enter Try.func3, Try.ntmps3
    go_wp2_with fail
    refine (awake_any _).mono ?_
    rintro e w1 ⟨rfl, hb1⟩
    go_wp2_with fail
    refine (bits_any _ _ hx).mono ?_
    rintro e w2 ⟨rfl, rfl⟩
    go_wp2_with fail
    refine (rbits_any _ _ hx).mono ?_
    rintro e w3 ⟨rfl, rfl⟩
    go_wp2_with fail
    refine (log_any _ _ hx).mono ?_
    rintro e w4 ⟨rfl, rfl⟩
    go_wp2_with fail
    refine (rlog_any _ _ hx).mono ?_
    rintro e w5 ⟨rfl, rfl⟩
    go_wp2_with fail
    refine (root_any _ _ hx).mono ?_
    rintro e w6 ⟨rfl, hb6⟩
    have hb16 := below_trans hb1 hb6
    clear hb1 hb6
    go_wp2_with fail
    refine (rroot_any _ _ hx).mono ?_
    rintro e w7 ⟨rfl, rfl⟩
    go_wp2_with fail
    refine (norm_any _ _ xs _ (unhide HN) _ (hl.below hb16) hs (by omega)).mono ?_
    rintro e w8 ⟨rfl, rfl⟩
    go_wp2_with fail
    refine (rnorm_any _ _ xs _ (unhide HN) _ (hl.below hb16) hs (by omega)).mono ?_
    rintro e w9 ⟨rfl, rfl⟩
    go_wp2
    go_ret
    exact ⟨rfl, hb16⟩
end Go.Proofs.Ytbommgfoahopfaa
