/-
  Proved: FrontMoves is true of any front of plain numbers, any samples and any place where another stream takes over: a stream that is set to a tail goes on as the one that told it, and the tail is the caller's own. Conditions: none; the listed package variables are tied to the program's text.
-/
import Derived.Test.YtbkdgpeooeokmaaDoorFrontMovesw
import Derived.Test.YtbkdgpeooeokmaaDoorPlainOpen
import Derived.Test.YtbkdgpeooeokmaaDoorLaid
import Derived.Test.YtbkdgpeooeokmaaDoorRows
import Derived.Test.YtbkdgpeooeokmaaDoorTie
import Derived.Test.YtbkdgpeooeokmaaDoorCards
import Derived.SevenTiedAt
import Derived.WalkKit
import Derived.ProofKit
import Derived.OpenShut
import Derived.ChangeMaps5
import Derived.ShutString
import Derived.ChangeOld
import Derived.Below
namespace Go.Proofs.YtbkdgpeooeokmaaDoor.frontMoves
open Go Go.ChangeShapes Go.WideShapes Go.ChangeAt Go.RowKit
open Go.ChangeMaps (open_string shut_string)
set_option linter.unusedVariables false

theorem laidOut : laidOutB Tryd.prog = true := by kernel_rfl

/-! ### THE ROW's STEP: WRITTEN OUT: LEAVE IT -/
set_option maxRecDepth 100000 in
theorem lifted (os : Os) (started : os.Started) (H : Type) (enc : TypeId × Value → H) :
    ReturnsInHanded {} Tryd.checked os 4 .any (fun w args => (Rows.frontMovesSpec.pre enc Tryd.prog Tryd.f4 [] false w args ∧ laidMetH Tryd.prog laidQ w) ∧ sizedMet enc Tryd.prog Tryd.f4 (OpenSpec.ofChange Rows.frontMovesSpec) false w args) (Rows.frontMovesSpec.post enc Tryd.prog Tryd.f4 false true false false) := by
  refine returnsInHanded_of_change_and (C := Tryd.checked) (X := fun w _ => laidMetH Tryd.prog laidQ w) (fun _ _ _ hh h => h.of_heap hh) ownQ started (by kernel_rfl) Tryd.func4
    (ChangeSpec.witness_shaped (enc := enc) (C := Tryd.checked) (os := os) (X := fun w _ => laidMetH Tryd.prog laidQ w) false (World.doorLaid Tryd.prog 14 os) #[.agg #[.int .i64 0, .int .i64 0, .int .i64 0, .bool false, .bool false], .slice none 0 0, .int .i64 0] 8 rfl (World.shaped_of_RefB (by kernel_rfl) (by kernel_rfl)) (by kernel_rfl) (by kernel_rfl) (by kernel_rfl) (door_met os _)) ?_
  intro W base args ds gs before hval0 hW _ _ hL _
  have hval : ∀ (j : Nat) t v, Tryd.f4.params[j]? = some t → args[j]? = some v → Value.okWide Tryd.prog W .any base t v := hval0
  have hW' := hW
  obtain ⟨p, q, hA0, hV, rfl, hfz, hnd⟩ := hW
  have hA : DataW.TrodAll enc Tryd.prog W 0 (fun _ => true) true Tryd.f4.params.toList args.toList ds p := hA0
  rw [Tryd.params4] at hA hval
  obtain ⟨v0, vs0, d0, ds0, p0, q0, hargs, rfl, rfl, h0, r0⟩ := trodAll_cons hA
  obtain ⟨v1, vs1, d1, ds1, p1, q1, rfl, rfl, rfl, h1, r1⟩ := trodAll_cons r0
  obtain ⟨v2, vs2, d2, ds2, p2, q2, rfl, rfl, rfl, h2, r2⟩ := trodAll_cons r1
  obtain ⟨rfl, rfl, rfl⟩ := trodAll_nil r2
  obtain rfl : args = #[v0, v1, v2] := by cases args; simp_all
  obtain ⟨rfl, rfl⟩ := trodVars_none hV
  have k0 := h0
  have lt0 : ∀ x ∈ p0, x.block < W.heap.size := by obtain ⟨m, hm⟩ := k0; exact DataW.trod_lt m _ _ _ hm
  have pl0 := (show Pl Tryd.prog (.inl 23) _ from .struct Tryd.underlying23 (.cons rfl (.int Tryd.underlying3 (by kernel_rfl)) (.cons rfl (.int Tryd.underlying3 (by kernel_rfl)) (.cons rfl (.int Tryd.underlying3 (by kernel_rfl)) (.cons rfl (.bool Tryd.underlying4 (by kernel_rfl)) (.cons rfl (.bool Tryd.underlying4 (by kernel_rfl)) .nil))))) (by kernel_rfl))
  obtain ⟨l0, hv0, ok0x0⟩ := struct_came Tryd.underlying23 pl0 (hval 0 23 v0 rfl rfl) h0
  obtain ⟨c0x0, l0x0, rfl, o0x0, ok0x1⟩ := oks_cons ok0x0
  obtain ⟨e0x0, rfl, w0x0⟩ := o0x0
  obtain ⟨c0x1, l0x1, rfl, o0x1, ok0x2⟩ := oks_cons ok0x1
  obtain ⟨e0x1, rfl, w0x1⟩ := o0x1
  obtain ⟨c0x2, l0x2, rfl, o0x2, ok0x3⟩ := oks_cons ok0x2
  obtain ⟨e0x2, rfl, w0x2⟩ := o0x2
  obtain ⟨c0x3, l0x3, rfl, o0x3, ok0x4⟩ := oks_cons ok0x3
  obtain ⟨e0x3, rfl⟩ := o0x3
  obtain ⟨c0x4, l0x4, rfl, o0x4, ok0x5⟩ := oks_cons ok0x4
  obtain ⟨e0x4, rfl⟩ := o0x4
  obtain rfl := oks_nil ok0x5
  have hv0' : v0 = .agg #[.int .i64 e0x0, .int .i64 e0x1, .int .i64 e0x2, .bool e0x3, .bool e0x4] := hv0
  subst hv0'
  obtain ⟨a1, len1, cap1, rfl⟩ := okWide_slice Tryd.underlying24 (hval 1 24 v1 rfl rfl)
  have k1 := h1
  have lt1 : ∀ x ∈ p1, x.block < W.heap.size := by obtain ⟨m, hm⟩ := k1; exact DataW.trod_lt m _ _ _ hm
  obtain ⟨z1, w1⟩ : ∃ zs, IsRow .i64 W a1 len1 cap1 zs := by
    obtain ⟨fuel, hf⟩ := h1
    rcases open_ints Tryd.underlying24 Tryd.underlying3 (by kernel_rfl) hf with ⟨hcs, _⟩ | ⟨x, l, c, zs, hcs, _, hl, hm, hz, _, hcell, hwz⟩
    · simp [Value.cells] at hcs
      obtain ⟨rfl, rfl, rfl⟩ := hcs
      exact ⟨[], .inl ⟨rfl, rfl, rfl, rfl⟩⟩
    · simp [Value.cells] at hcs
      obtain ⟨rfl, rfl, rfl⟩ := hcs
      exact ⟨zs, .inr ⟨_, rfl, hl, hm, by simpa using hz, hcell, hwz⟩⟩
  obtain ⟨a2, rfl, rfl, rfl, w2⟩ := open_int Tryd.underlying3 (hval 2 3 v2 rfl rfl) h2
  clear hA0 hval0
  refine (moves_walk e0x0 e0x1 e0x2 e0x3 e0x4 a1 len1 cap1 z1 a2 _ w1 (quar_of_laid hL)).mono fun e W' ⟨he, bel⟩ => ?_
  subst he
  exact ⟨_, rfl, _, _, _, [], _, [], hW', trodAll_mk1 (shut_bool Tryd.underlying4 _), (trodAll_cons_mk (Below.trod laidOut (by kernel_rfl) (of_decide_eq_true (by kernel_rfl)) k0 bel lt0) (trodAll_cons_mk (Below.trod laidOut (by kernel_rfl) (of_decide_eq_true (by kernel_rfl)) k1 bel lt1) (trodAll_cons_mk (shut_int Tryd.underlying3 w2) trodAll_mk0))), rfl, bel.frame _, fun h => by cases h⟩

theorem over : Rows.frontMovesRow.holds Tryd.pinned (OpenSpec.ofChange Rows.frontMovesSpec) :=
  OpenClaim.holds_of_wide 4 Tryd.f4 rfl rfl rfl rfl rfl rfl rfl ⟨rfl, rfl, rfl, rfl, rfl⟩ rfl rfl rfl rfl rfl (by kernel_rfl) Tryd.func4 (by kernel_rfl)
    (of_decide_eq_true (by kernel_rfl)) (by unfold Func.isWrapper; first | (rw [if_pos (by decide +kernel)]; kernel_rfl) | (rw [if_neg (by decide +kernel)]; exact ⟨rfl, rfl⟩))
    (fun os started H enc _ => lifted os started H enc)

/-- ████ THE STATEMENT ████ -/
theorem proved : Rows.FrontMovesCardSaid :=
  Claim7.holds_tied_plain_at .later [] [.data] true (true, "2367477226ec04dd3295e6f28ce3a53f2b6e989dd7c7f9a399c98488a69b878e") false
    over (fun _ h => by cases h) (by kernel_rfl) (fun _ h => by cases h) frontMoves_row_tie rfl ⟨rfl, rfl⟩ (by kernel_rfl) rfl
    (fun f fn hf hfn => by
      obtain rfl : f = 4 := Option.some.inj ((show Tryd.prog.funcNamed "earshot/earshotlaw13.FrontMoves" = some 4 by kernel_rfl).symm.trans hf) |>.symm
      obtain rfl : fn = Tryd.f4 := (Option.some.inj (Tryd.func4.symm.trans hfn)).symm
      exact ⟨by kernel_rfl, fun j t ht => by
        rw [Tryd.params4] at ht
        have hm : t ∈ [23, 24, 3] := by simpa using Array.mem_of_getElem? ht
        have hall : ([23, 24, 3].all fun u => !Tryd.prog.wantsStandIn u) = true := by kernel_rfl
        exact (show Tryd.prog.wantsStandIn t = false by simpa using List.all_eq_true.1 hall t hm)⟩)
    (by kernel_rfl)
#print axioms proved
end Go.Proofs.YtbkdgpeooeokmaaDoor.frontMoves
