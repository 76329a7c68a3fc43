/-
  Proved: whichever front there is, and whatever tail of sound is handed in (nil, short, too long, with a nought more, or with the last one too great): a stream is set to it exactly if the document says that it may be, tells it back then, and is left as it was otherwise; FrontTails answers true. Conditions: none; the listed package variables are tied to the program's text.
-/
import Derived.Test.YtbkdgpeooeokmaaDoorFrontTailsw
import Derived.Test.YtbkdgpeooeokmaaDoorPlainOpen
import Derived.Test.YtbkdgpeooeokmaaDoorLaid
import Derived.Test.YtbkdgpeooeokmaaDoorRows
import Derived.Test.YtbkdgpeooeokmaaDoorTie
import Derived.Test.YtbkdgpeooeokmaaDoorCards
import Derived.SevenTiedAt
import Derived.WalkKit
import Derived.ProofKit
import Derived.OpenShut
import Derived.ChangeMaps5
import Derived.ShutString
import Derived.ChangeOld
import Derived.Below
namespace Go.Proofs.YtbkdgpeooeokmaaDoor.frontTails
open Go Go.ChangeShapes Go.WideShapes Go.ChangeAt Go.RowKit
open Go.ChangeMaps (open_string shut_string)
set_option linter.unusedVariables false

theorem laidOut : laidOutB Tryd.prog = true := by kernel_rfl

/-! ### THE ROW's STEP: WRITTEN OUT: LEAVE IT -/
set_option maxRecDepth 100000 in
theorem lifted (os : Os) (started : os.Started) (H : Type) (enc : TypeId × Value → H) :
    ReturnsInHanded {} Tryd.checked os 5 .any (fun w args => (Rows.frontTailsSpec.pre enc Tryd.prog Tryd.f5 [] false w args ∧ laidMetH Tryd.prog laidQ w) ∧ sizedMet enc Tryd.prog Tryd.f5 (OpenSpec.ofChange Rows.frontTailsSpec) false w args) (Rows.frontTailsSpec.post enc Tryd.prog Tryd.f5 false true false false) := by
  refine returnsInHanded_of_change_and (C := Tryd.checked) (X := fun w _ => laidMetH Tryd.prog laidQ w) (fun _ _ _ hh h => h.of_heap hh) ownQ started (by kernel_rfl) Tryd.func5
    (ChangeSpec.witness_shaped (enc := enc) (C := Tryd.checked) (os := os) (X := fun w _ => laidMetH Tryd.prog laidQ w) false (World.doorLaid Tryd.prog 14 os) #[.agg #[.int .i64 0, .int .i64 0, .int .i64 0, .bool false, .bool false], .int .i64 0, .agg #[.bool false, .bool false, .bool false]] 8 rfl (World.shaped_of_RefB (by kernel_rfl) (by kernel_rfl)) (by kernel_rfl) (by kernel_rfl) (by kernel_rfl) (door_met os _)) ?_
  intro W base args ds gs before hval0 hW _ _ hL _
  have hval : ∀ (j : Nat) t v, Tryd.f5.params[j]? = some t → args[j]? = some v → Value.okWide Tryd.prog W .any base t v := hval0
  have hW' := hW
  obtain ⟨p, q, hA0, hV, rfl, hfz, hnd⟩ := hW
  have hA : DataW.TrodAll enc Tryd.prog W 0 (fun _ => true) true Tryd.f5.params.toList args.toList ds p := hA0
  rw [Tryd.params5] at hA hval
  obtain ⟨v0, vs0, d0, ds0, p0, q0, hargs, rfl, rfl, h0, r0⟩ := trodAll_cons hA
  obtain ⟨v1, vs1, d1, ds1, p1, q1, rfl, rfl, rfl, h1, r1⟩ := trodAll_cons r0
  obtain ⟨v2, vs2, d2, ds2, p2, q2, rfl, rfl, rfl, h2, r2⟩ := trodAll_cons r1
  obtain ⟨rfl, rfl, rfl⟩ := trodAll_nil r2
  obtain rfl : args = #[v0, v1, v2] := by cases args; simp_all
  obtain ⟨rfl, rfl⟩ := trodVars_none hV
  have k0 := h0
  have lt0 : ∀ x ∈ p0, x.block < W.heap.size := by obtain ⟨m, hm⟩ := k0; exact DataW.trod_lt m _ _ _ hm
  have pl0 := (show Pl Tryd.prog (.inl 23) _ from .struct Tryd.underlying23 (.cons rfl (.int Tryd.underlying3 (by kernel_rfl)) (.cons rfl (.int Tryd.underlying3 (by kernel_rfl)) (.cons rfl (.int Tryd.underlying3 (by kernel_rfl)) (.cons rfl (.bool Tryd.underlying4 (by kernel_rfl)) (.cons rfl (.bool Tryd.underlying4 (by kernel_rfl)) .nil))))) (by kernel_rfl))
  obtain ⟨l0, hv0, ok0x0⟩ := struct_came Tryd.underlying23 pl0 (hval 0 23 v0 rfl rfl) h0
  obtain ⟨c0x0, l0x0, rfl, o0x0, ok0x1⟩ := oks_cons ok0x0
  obtain ⟨e0x0, rfl, w0x0⟩ := o0x0
  obtain ⟨c0x1, l0x1, rfl, o0x1, ok0x2⟩ := oks_cons ok0x1
  obtain ⟨e0x1, rfl, w0x1⟩ := o0x1
  obtain ⟨c0x2, l0x2, rfl, o0x2, ok0x3⟩ := oks_cons ok0x2
  obtain ⟨e0x2, rfl, w0x2⟩ := o0x2
  obtain ⟨c0x3, l0x3, rfl, o0x3, ok0x4⟩ := oks_cons ok0x3
  obtain ⟨e0x3, rfl⟩ := o0x3
  obtain ⟨c0x4, l0x4, rfl, o0x4, ok0x5⟩ := oks_cons ok0x4
  obtain ⟨e0x4, rfl⟩ := o0x4
  obtain rfl := oks_nil ok0x5
  have hv0' : v0 = .agg #[.int .i64 e0x0, .int .i64 e0x1, .int .i64 e0x2, .bool e0x3, .bool e0x4] := hv0
  subst hv0'
  obtain ⟨a1, rfl, rfl, rfl, w1⟩ := open_int Tryd.underlying3 (hval 1 3 v1 rfl rfl) h1
  have k2 := h2
  have lt2 : ∀ x ∈ p2, x.block < W.heap.size := by obtain ⟨m, hm⟩ := k2; exact DataW.trod_lt m _ _ _ hm
  have pl2 := (show Pl Tryd.prog (.inl 45) _ from .array Tryd.underlying45 (.bool Tryd.underlying4 (by kernel_rfl)) (by kernel_rfl))
  obtain ⟨l2, hv2, ok2x0⟩ := array_came Tryd.underlying45 pl2 (hval 2 45 v2 rfl rfl) h2
  obtain ⟨c2x0, l2x0, rfl, o2x0, ok2x1⟩ := oks_cons ok2x0
  obtain ⟨e2x0, rfl⟩ := o2x0
  obtain ⟨c2x1, l2x1, rfl, o2x1, ok2x2⟩ := oks_cons ok2x1
  obtain ⟨e2x1, rfl⟩ := o2x1
  obtain ⟨c2x2, l2x2, rfl, o2x2, ok2x3⟩ := oks_cons ok2x2
  obtain ⟨e2x2, rfl⟩ := o2x2
  obtain rfl := oks_nil ok2x3
  have hv2' : v2 = .agg #[.bool e2x0, .bool e2x1, .bool e2x2] := hv2
  subst hv2'
  clear hA0 hval0
  refine (tails_walk e0x0 e0x1 e0x2 e0x3 e0x4 a1 e2x0 e2x1 e2x2 _ (in_of_wf w1) (quar_of_laid hL)).mono fun e W' ⟨he, bel⟩ => ?_
  subst he
  exact ⟨_, rfl, _, _, _, [], _, [], hW', trodAll_mk1 (shut_bool Tryd.underlying4 _), (trodAll_cons_mk (Below.trod laidOut (by kernel_rfl) (of_decide_eq_true (by kernel_rfl)) k0 bel lt0) (trodAll_cons_mk (shut_int Tryd.underlying3 w1) (trodAll_cons_mk (Below.trod laidOut (by kernel_rfl) (of_decide_eq_true (by kernel_rfl)) k2 bel lt2) trodAll_mk0))), rfl, bel.frame _, fun h => by cases h⟩

theorem over : Rows.frontTailsRow.holds Tryd.pinned (OpenSpec.ofChange Rows.frontTailsSpec) :=
  OpenClaim.holds_of_wide 5 Tryd.f5 rfl rfl rfl rfl rfl rfl rfl ⟨rfl, rfl, rfl, rfl, rfl⟩ rfl rfl rfl rfl rfl (by kernel_rfl) Tryd.func5 (by kernel_rfl)
    (of_decide_eq_true (by kernel_rfl)) (by unfold Func.isWrapper; first | (rw [if_pos (by decide +kernel)]; kernel_rfl) | (rw [if_neg (by decide +kernel)]; exact ⟨rfl, rfl⟩))
    (fun os started H enc _ => lifted os started H enc)

/-- ████ THE STATEMENT ████ -/
theorem proved : Rows.FrontTailsCardSaid :=
  Claim7.holds_tied_plain_at .later [] [.data] true (true, "2367477226ec04dd3295e6f28ce3a53f2b6e989dd7c7f9a399c98488a69b878e") false
    over (fun _ h => by cases h) (by kernel_rfl) (fun _ h => by cases h) frontTails_row_tie rfl ⟨rfl, rfl⟩ (by kernel_rfl) rfl
    (fun f fn hf hfn => by
      obtain rfl : f = 5 := Option.some.inj ((show Tryd.prog.funcNamed "earshot/earshotlaw13.FrontTails" = some 5 by kernel_rfl).symm.trans hf) |>.symm
      obtain rfl : fn = Tryd.f5 := (Option.some.inj (Tryd.func5.symm.trans hfn)).symm
      exact ⟨by kernel_rfl, fun j t ht => by
        rw [Tryd.params5] at ht
        have hm : t ∈ [23, 3, 45] := by simpa using Array.mem_of_getElem? ht
        have hall : ([23, 3, 45].all fun u => !Tryd.prog.wantsStandIn u) = true := by kernel_rfl
        exact (show Tryd.prog.wantsStandIn t = false by simpa using List.all_eq_true.1 hall t hm)⟩)
    (by kernel_rfl)
#print axioms proved
end Go.Proofs.YtbkdgpeooeokmaaDoor.frontTails
