/- Contracts of a part's Get and Put. -/
import Derived.Test.YtbekechjphangaaArena
import Derived.Deep.RegionWith
namespace Go.Proofs.Ytbekechjphangaa
open Go.RowKit
set_option linter.unusedVariables false

theorem Ar.drew {c g n : Nat} {w : World} {L : List Int} {e : Int} (h : Ar c g n w L e) : Ar c g n w.drew L e := ⟨h.len, h.me, h.row, h.ne⟩
theorem two_undrew {c g : Nat} {w w' : World} (h : Two c g w.drew w') : Two c g w w' := ⟨h.os, h.tape, h.output, h.size, h.block⟩
theorem only_undrew {c : Nat} {w w' : World} (h : Only c w.drew w') : Only c w w' := ⟨h.os, h.tape, h.output, h.size, h.block⟩
set_option maxHeartbeats 1000000 in
theorem pget_any (b c g o m n : Nat) (L : List Int) (e i : Int) (w : World) (h : Pt b c g o m w) (ha : Ar c g n w L e) (hm : o + m ≤ n) :
    Calls Try.prog 21 #[.pointer (some ⟨b, 0, none⟩), .int .i64 i] w fun r w' => r = .returned (.int .i64 (getI L o m i)) ∧ Only c w w' ∧ Ar c g n w' L (getE m i e) := by
  have h0 : w.cell? ⟨b, 0, none⟩ = some (.pointer (some ⟨c, 0, none⟩)) := h.cell 0 _ rfl
  have h1 : w.cell? ⟨b, 1, none⟩ = some (.slice (some ⟨g, o, none⟩) m m) := h.cell 1 _ rfl
  have K := hide (get_any c g n o m L e i w.drew ha.drew hm)
  clear h ha
  go_enter Try.func21, Try.ntmps21
  go_wp2_with fail
  go_region_with (first | (go_at_call 37; refine (unhide K).mono ?_; rintro e' w' ⟨rfl, ho, ha⟩; have HO := hide ho; have HA := hide ha; clear ho ha))
  all_goals (go_wp2; go_ret; exact ⟨rfl, only_undrew (unhide HO), unhide HA⟩)
set_option maxHeartbeats 1000000 in
theorem pput_any (b c g o m n : Nat) (L : List Int) (e i x : Int) (w : World) (h : Pt b c g o m w) (ha : Ar c g n w L e) (hm : o + m ≤ n) :
    Calls Try.prog 20 #[.pointer (some ⟨b, 0, none⟩), .int .i64 i, .int .i64 x] w fun r w' => r = .returned (.tuple #[]) ∧ Two c g w w' ∧ Ar c g n w' (putL L o m i x) (putE m i x e) := by
  have h0 : w.cell? ⟨b, 0, none⟩ = some (.pointer (some ⟨c, 0, none⟩)) := h.cell 0 _ rfl
  have h1 : w.cell? ⟨b, 1, none⟩ = some (.slice (some ⟨g, o, none⟩) m m) := h.cell 1 _ rfl
  have K := hide (put_any c g n o m L e i x w.drew ha.drew hm)
  clear h ha
  go_enter Try.func20, Try.ntmps20
  go_wp2_with fail
  go_region_with (first | (go_at_call 33; refine (unhide K).mono ?_; rintro e' w' ⟨rfl, ho, ha⟩; have HO := hide ho; have HA := hide ha; clear ho ha))
  all_goals (go_wp2; go_end0; exact ⟨rfl, two_undrew (unhide HO), unhide HA⟩)
end Go.Proofs.Ytbekechjphangaa
