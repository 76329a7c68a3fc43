/- The contract of sat.Add and of its closure. -/
import Derived.Test.YtofmkhjdnmgdlaaSum
import Derived.Deep.RegionWith
namespace Go.Proofs.Ytofmkhjdnmgdlaa
open Go.RowKit
set_option linter.unusedVariables false

set_option maxHeartbeats 1000000 in
theorem add1_any (x t l h : Int) (bt bl bh : Nat) (w : World) (hx : In64 x) (ht : In64 t) (n1 : bt ≠ bl) (n2 : bt ≠ bh)
    (et : w.heap[bt]? = some (.cells #[.int .i64 t] 3 (0, 0))) (el : w.heap[bl]? = some (.cells #[.int .i64 l] 3 (0, 0))) (eh : w.heap[bh]? = some (.cells #[.int .i64 h] 3 (0, 0))) :
    Calls Try.prog 29 #[.int .i64 x, .pointer (some ⟨bt, 0, none⟩), .pointer (some ⟨bl, 0, none⟩), .pointer (some ⟨bh, 0, none⟩)] w fun e w' => e = .returned (.tuple #[]) ∧
      w' = (w.setCell ⟨bt, 0, none⟩ (.int .i64 (clampI (plusI t x) l h))).drew := by
  have ct := cell_of_one et
  have ft := free_of_one et
  have cl := cell_of_one el
  have ch := cell_of_one eh
  go_enter Try.func29, Try.ntmps29
  go_wp2
  go_region_with (first | (go_at_call 30; refine (plus_any _ _ _ ht hx).mono ?_; rintro e w' ⟨rfl, rfl⟩) | (go_at_call 14; refine (clamp_any _ _ _ _).mono ?_; rintro e w' ⟨rfl, rfl⟩))
  all_goals go_end0
  all_goals exact ⟨rfl, rfl⟩
end Go.Proofs.Ytofmkhjdnmgdlaa
