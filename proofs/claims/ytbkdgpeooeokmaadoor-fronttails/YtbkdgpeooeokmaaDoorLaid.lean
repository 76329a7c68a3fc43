/- The quarter's table lies in memory as the program's text lays it. -/
import Derived.Test.YtbkdgpeooeokmaaDoorRows
import Derived.Test.YtbkdgpeooeokmaaDoorBase
import Derived.ProofKit
import Derived.LaidMore
import Derived.OpenShut
import Derived.Stop.Joined
namespace Go.Proofs.YtbkdgpeooeokmaaDoor
open Go.ChangeShapes Go.WideShapes Go.ChangeAt Go.RowKit
set_option linter.unusedVariables false

def laidQ : List (String × DataW Unit) := [("earshot/circle.quarter", Rows.laid_earshot_circle_quarter)]
theorem gQ : Tryd.prog.globalNamed "earshot/circle.quarter" = some 0 := by kernel_rfl
theorem tQ : (Tryd.prog.globals[0]?).map (·.type) = some 97 := by kernel_rfl
theorem ownQ : ownKnob Tryd.prog.godebug = none := by kernel_rfl
theorem c3Q : Tryd.prog.cellsOf 3 = 1 := by kernel_rfl
theorem c34Q : Tryd.prog.cellsOf 97 = 17 := by kernel_rfl
theorem laid_quar {H : Type} : (Rows.laid_earshot_circle_quarter : DataW H) = .agg (quarL.map fun z => .lit (.int .i64 z)) := rfl

theorem door_met (os : Os) (args : Array Value) : laidMetH Tryd.prog laidQ ((World.doorLaid Tryd.prog 14 os).forCall (fun _ _ => 0) ⟨#[], args, []⟩).memory :=
  laidMetH_of_parts3 (fuel := 8) (laidMet_of_run' 8 (by kernel_rfl) (by kernel_rfl)) (by kernel_rfl) (by kernel_rfl)

theorem quar_of_laid {W : World} (h : laidMetH Tryd.prog laidQ W) : Quar W := by
  rw [MakeChecks.laidMetH_plain _ _ _ (by kernel_rfl)] at h
  obtain ⟨ps, ⟨g0, t0, cs0, f0, p0, q0, hg0, ht0, hv0, hd0, _, _⟩, _, _⟩ := h
  obtain rfl := Option.some.inj (gQ.symm.trans hg0)
  obtain rfl := Option.some.inj (tQ.symm.trans ht0)
  obtain ⟨xs, m1, rfl, hx1, hlen, hn, hel⟩ := DataW.trod_array Tryd.underlying97 hd0
  rw [c34Q] at hlen
  simp only [laid_quar, Prod.mk.injEq, DataW.agg.injEq] at hx1
  have hcell : ∀ i, i < 17 → W.cell? ⟨0, i, none⟩ = some (.int .i64 (quarAt i)) := by
    intro i hi
    have h1 := hel i hi
    rw [c3Q, Nat.mul_one, List.getElem?_eq_getElem (by omega)] at h1
    obtain ⟨z, e1, e2, _⟩ := DataW.trod_int Tryd.underlying3 h1
    have e3 : (quarL.map fun z => (.lit (.int .i64 z) : DataW Unit))[i]? = some (.lit (.int .i64 z)) := by
      rw [hx1.1, List.getElem?_map, List.getElem?_eq_getElem (by omega), e2]
      rfl
    have hz : z = quarAt i := by
      have hl : quarL.length = 17 := by decide +kernel
      rw [List.getElem?_map, List.getElem?_eq_getElem (by omega)] at e3
      simp at e3
      unfold quarAt
      rw [List.getD_eq_getElem?_getD, List.getElem?_eq_getElem (by omega)]
      exact e3.symm
    rw [World.var?_cell hg0 hv0 i, ← hz]
    have e4 : ((cs0.toList.drop i).take 1)[0]? = some (.int .i64 z) := by rw [e1]; rfl
    rw [List.getElem?_take, if_pos (by decide), List.getElem?_drop, Nat.add_zero] at e4
    simpa using e4
  exact ⟨lt_of_cell (hcell 0 (by decide)), hcell⟩
end Go.Proofs.YtbkdgpeooeokmaaDoor
