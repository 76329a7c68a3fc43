/-
  Proved: FrontNil is true of any front and any number: of no stream nothing comes, of a front that is not right there is none, and what is no sample is refused. Conditions: none; the listed package variables are tied to the program's text.
-/
import Derived.Test.YtbkdgpeooeokmaaDoorFrontNilw
import Derived.Test.YtbkdgpeooeokmaaDoorPlainOpen
import Derived.Test.YtbkdgpeooeokmaaDoorLaid
import Derived.Test.YtbkdgpeooeokmaaDoorRows
import Derived.Test.YtbkdgpeooeokmaaDoorTie
import Derived.Test.YtbkdgpeooeokmaaDoorCards
import Derived.SevenTiedAt
import Derived.WalkKit
import Derived.ProofKit
import Derived.OpenShut
import Derived.ChangeMaps5
import Derived.ShutString
import Derived.ChangeOld
import Derived.Below
namespace Go.Proofs.YtbkdgpeooeokmaaDoor.frontNil
open Go Go.ChangeShapes Go.WideShapes Go.ChangeAt Go.RowKit
open Go.ChangeMaps (open_string shut_string)
set_option linter.unusedVariables false

theorem laidOut : laidOutB Tryd.prog = true := by kernel_rfl

/-! ### THE ROW's STEP: WRITTEN OUT: LEAVE IT -/
set_option maxRecDepth 100000 in
theorem lifted (os : Os) (started : os.Started) (H : Type) (enc : TypeId × Value → H) :
    ReturnsInHanded {} Tryd.checked os 6 .any (fun w args => (Rows.frontNilSpec.pre enc Tryd.prog Tryd.f6 [] false w args ∧ laidMetH Tryd.prog laidQ w) ∧ sizedMet enc Tryd.prog Tryd.f6 (OpenSpec.ofChange Rows.frontNilSpec) false w args) (Rows.frontNilSpec.post enc Tryd.prog Tryd.f6 false true false false) := by
  refine returnsInHanded_of_change_and (C := Tryd.checked) (X := fun w _ => laidMetH Tryd.prog laidQ w) (fun _ _ _ hh h => h.of_heap hh) ownQ started (by kernel_rfl) Tryd.func6
    (ChangeSpec.witness_shaped (enc := enc) (C := Tryd.checked) (os := os) (X := fun w _ => laidMetH Tryd.prog laidQ w) false (World.doorLaid Tryd.prog 14 os) #[.agg #[.int .i64 0, .int .i64 0, .int .i64 0, .int .i64 0, .int .i64 0], .int .i64 0] 8 rfl (World.shaped_of_RefB (by kernel_rfl) (by kernel_rfl)) (by kernel_rfl) (by kernel_rfl) (by kernel_rfl) (door_met os _)) ?_
  intro W base args ds gs before hval0 hW _ _ hL _
  have hval : ∀ (j : Nat) t v, Tryd.f6.params[j]? = some t → args[j]? = some v → Value.okWide Tryd.prog W .any base t v := hval0
  have hW' := hW
  obtain ⟨p, q, hA0, hV, rfl, hfz, hnd⟩ := hW
  have hA : DataW.TrodAll enc Tryd.prog W 0 (fun _ => true) true Tryd.f6.params.toList args.toList ds p := hA0
  rw [Tryd.params6] at hA hval
  obtain ⟨v0, vs0, d0, ds0, p0, q0, hargs, rfl, rfl, h0, r0⟩ := trodAll_cons hA
  obtain ⟨v1, vs1, d1, ds1, p1, q1, rfl, rfl, rfl, h1, r1⟩ := trodAll_cons r0
  obtain ⟨rfl, rfl, rfl⟩ := trodAll_nil r1
  obtain rfl : args = #[v0, v1] := by cases args; simp_all
  obtain ⟨rfl, rfl⟩ := trodVars_none hV
  have k0 := h0
  have lt0 : ∀ x ∈ p0, x.block < W.heap.size := by obtain ⟨m, hm⟩ := k0; exact DataW.trod_lt m _ _ _ hm
  have pl0 := (show Pl Tryd.prog (.inl 27) _ from .struct Tryd.underlying27 (.cons rfl (.int Tryd.underlying3 (by kernel_rfl)) (.cons rfl (.int Tryd.underlying3 (by kernel_rfl)) (.cons rfl (.int Tryd.underlying3 (by kernel_rfl)) (.cons rfl (.int Tryd.underlying3 (by kernel_rfl)) (.cons rfl (.int Tryd.underlying3 (by kernel_rfl)) .nil))))) (by kernel_rfl))
  obtain ⟨l0, hv0, ok0x0⟩ := struct_came Tryd.underlying27 pl0 (hval 0 27 v0 rfl rfl) h0
  obtain ⟨c0x0, l0x0, rfl, o0x0, ok0x1⟩ := oks_cons ok0x0
  obtain ⟨e0x0, rfl, w0x0⟩ := o0x0
  obtain ⟨c0x1, l0x1, rfl, o0x1, ok0x2⟩ := oks_cons ok0x1
  obtain ⟨e0x1, rfl, w0x1⟩ := o0x1
  obtain ⟨c0x2, l0x2, rfl, o0x2, ok0x3⟩ := oks_cons ok0x2
  obtain ⟨e0x2, rfl, w0x2⟩ := o0x2
  obtain ⟨c0x3, l0x3, rfl, o0x3, ok0x4⟩ := oks_cons ok0x3
  obtain ⟨e0x3, rfl, w0x3⟩ := o0x3
  obtain ⟨c0x4, l0x4, rfl, o0x4, ok0x5⟩ := oks_cons ok0x4
  obtain ⟨e0x4, rfl, w0x4⟩ := o0x4
  obtain rfl := oks_nil ok0x5
  have hv0' : v0 = .agg #[.int .i64 e0x0, .int .i64 e0x1, .int .i64 e0x2, .int .i64 e0x3, .int .i64 e0x4] := hv0
  subst hv0'
  obtain ⟨a1, rfl, rfl, rfl, w1⟩ := open_int Tryd.underlying3 (hval 1 3 v1 rfl rfl) h1
  clear hA0 hval0
  refine (nil_walk e0x0 e0x1 e0x2 e0x3 e0x4 a1 _ (quar_of_laid hL)).mono fun e W' ⟨he, bel⟩ => ?_
  subst he
  exact ⟨_, rfl, _, _, _, [], _, [], hW', trodAll_mk1 (shut_bool Tryd.underlying4 _), (trodAll_cons_mk (Below.trod laidOut (by kernel_rfl) (of_decide_eq_true (by kernel_rfl)) k0 bel lt0) (trodAll_cons_mk (shut_int Tryd.underlying3 w1) trodAll_mk0)), rfl, bel.frame _, fun h => by cases h⟩

theorem over : Rows.frontNilRow.holds Tryd.pinned (OpenSpec.ofChange Rows.frontNilSpec) :=
  OpenClaim.holds_of_wide 6 Tryd.f6 rfl rfl rfl rfl rfl rfl rfl ⟨rfl, rfl, rfl, rfl, rfl⟩ rfl rfl rfl rfl rfl (by kernel_rfl) Tryd.func6 (by kernel_rfl)
    (of_decide_eq_true (by kernel_rfl)) (by unfold Func.isWrapper; first | (rw [if_pos (by decide +kernel)]; kernel_rfl) | (rw [if_neg (by decide +kernel)]; exact ⟨rfl, rfl⟩))
    (fun os started H enc _ => lifted os started H enc)

/-- ████ THE STATEMENT ████ -/
theorem proved : Rows.FrontNilCardSaid :=
  Claim7.holds_tied_plain_at .later [] [.data] true (true, "2367477226ec04dd3295e6f28ce3a53f2b6e989dd7c7f9a399c98488a69b878e") false
    over (fun _ h => by cases h) (by kernel_rfl) (fun _ h => by cases h) frontNil_row_tie rfl ⟨rfl, rfl⟩ (by kernel_rfl) rfl
    (fun f fn hf hfn => by
      obtain rfl : f = 6 := Option.some.inj ((show Tryd.prog.funcNamed "earshot/earshotlaw13.FrontNil" = some 6 by kernel_rfl).symm.trans hf) |>.symm
      obtain rfl : fn = Tryd.f6 := (Option.some.inj (Tryd.func6.symm.trans hfn)).symm
      exact ⟨by kernel_rfl, fun j t ht => by
        rw [Tryd.params6] at ht
        have hm : t ∈ [27, 3] := by simpa using Array.mem_of_getElem? ht
        have hall : ([27, 3].all fun u => !Tryd.prog.wantsStandIn u) = true := by kernel_rfl
        exact (show Tryd.prog.wantsStandIn t = false by simpa using List.all_eq_true.1 hall t hm)⟩)
    (by kernel_rfl)
#print axioms proved
end Go.Proofs.YtbkdgpeooeokmaaDoor.frontNil
