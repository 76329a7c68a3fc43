/- Package front: Reset. -/
import Derived.Test.YtbkdgpeooeokmaaDoorFrontTailc
namespace Go.Proofs.YtbkdgpeooeokmaaDoor
open Go.RowKit
set_option linter.unusedVariables false

theorem reset_nil (w : World) : Calls Tryd.prog 12 #[.pointer none] w fun e w' => e = .returned (.tuple #[]) ∧ w' = w := by
  go_enter Tryd.func12, Tryd.ntmps12
  go_wp2
  go_end0
  exact ⟨rfl, rfl⟩
theorem reset_any (c n p B C : Nat) (pre : Int) (t : StD) (w : World) (hst : Stm c n p B C pre t w) :
    Calls Tryd.prog 12 #[.pointer (some ⟨c, 0, none⟩)] w fun e w' => e = .returned (.tuple #[]) ∧ Stm c n p B C pre stNone w' ∧ Only c w w' := by
  obtain ⟨a, m, cap, hc, _⟩ := hst
  have k5 := hc.cell 5 _ rfl
  have k6 := hc.cell 6 _ rfl
  have k7 := hc.cell 7 _ rfl
  have z5 := hc.free 5
  have z6 := hc.free 6
  have z7 := hc.free 7
  have HC := hide hc
  clear hc
  go_enter Tryd.func12, Tryd.ntmps12
  go_wp2
  clear k5 k6 k7 z5 z6 z7
  go_end0
  refine ⟨rfl, ⟨none, 0, 0, (((unhide HC).set 5 _).set 6 _).set 7 _, rfl, .inl ⟨rfl, rfl, rfl⟩, .inl rfl, fun q hq => by cases hq⟩, ((((Only.refl c w).setCell rfl _).setCell rfl _).setCell rfl _)⟩
end Go.Proofs.YtbkdgpeooeokmaaDoor
