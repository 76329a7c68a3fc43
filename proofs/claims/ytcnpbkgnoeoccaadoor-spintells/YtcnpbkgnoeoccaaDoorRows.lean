/-
  NARROWER THAN 'FOR EVERY INPUT', by the rows' own cells (each row's printed sentence says how): SpinTells: laid · SpinTurns: laid · SpinSums: laid · SpinQuarter: laid · SpinSizes: laid.
  DERIVED. THE GIVEN ROWS OF THIS SEAT. 5 by the template 'for every input the law returns true; each argument reads behind the call as it read before'; 0 by the template 'total and deterministic' (their statements: YtcnpbkgnoeoccaaDoorTotals.lean).
  GIVEN WITH THE SEED: the statements are not yours to turn. If you find one false, say at which input.
  Laid BY PROGRAM, IN A SANDBOX (cutbox-rows.mjs): the forced cells as the released guide's own fill.sh prints them over the translation f8ad6c728fca1753… (all of the seat's roots in one cut). By AI agents, Wed Nov 11 2026. No macro, syntax, notation, axiom, sorry.
-/
import Derived.Test.YtcnpbkgnoeoccaaDoorChecked
import GoSem.Claim
import GoSem.ClaimJoined
import GoSem.ClaimMapViews
import Derived.JoinedTies
import Derived.KernelRfl
namespace Go.Proofs.YtcnpbkgnoeoccaaDoor
/- THE CELL 'sum', in the pinned program and in every row, IS THE sha256 OF THE DUMP (.gsa) THAT YtcnpbkgnoeoccaaDoorProg.lean LOADS. Nothing in Lean hashes anything: it is a label: what it is worth is what the hold of that sum in a sandbox is worth. -/
noncomputable def Tryd.pinned : Pinned := { name := "ytcnpbkgnoeoccaadoor", sum := "f8ad6c728fca175312759cf7741bea43ad7d860189d0ed453a8aeafa4a64ac75", checked := Tryd.checked }
namespace Rows
def none {H : Type} : Left H := { results := [], args := [] }

/- WHAT THE LISTED PACKAGE-LEVEL VARIABLES READ AS WHEN THE CALL BEGINS. Each datum BY PROGRAM (the guide's laid-datum.mjs) off the statement by which the dump's own 'gosem.cut.vars' lays the variable. In a bare row this is a premise. The card (YtcnpbkgnoeoccaaDoorCards.lean) ties it to the program's text. -/
def laid_earshot_circle_quarter {H : Type} : DataW H := .agg [.lit (.int .i64 16384), .lit (.int .i64 16305), .lit (.int .i64 16069), .lit (.int .i64 15679), .lit (.int .i64 15137), .lit (.int .i64 14449), .lit (.int .i64 13623), .lit (.int .i64 12665), .lit (.int .i64 11585), .lit (.int .i64 10394), .lit (.int .i64 9102), .lit (.int .i64 7723), .lit (.int .i64 6270), .lit (.int .i64 4756), .lit (.int .i64 3196), .lit (.int .i64 1606), .lit (.int .i64 0)]

/-- 'earshotlaw09.SpinTells': WHATEVER THE INPUT: true; the input reads as it did. -/
def spinTellsSpec : ChangeSpec := { name := "spinTells", fn := fun _ => fun
  | [d1, d2, d3] => { results := [.lit (.bool true)], args := [d1, d2, d3] }
  | _ => none }
def spinTellsRow : OpenClaim := { program := "ytcnpbkgnoeoccaadoor", sum := "f8ad6c728fca175312759cf7741bea43ad7d860189d0ed453a8aeafa4a64ac75", func := "earshot/earshotlaw09.SpinTells", spec := "spinTells", unfollowed := true, recurses := true, named := ["earshot/circle.quarter"], apart := false, laid := [("earshot/circle.quarter", laid_earshot_circle_quarter)] }
def SpinTellsSaid : Prop := spinTellsRow.holds Tryd.pinned (OpenSpec.ofChange spinTellsSpec)

/-- ITS FALSE NEIGHBOUR: 'it returns false'. Refute it at one input. -/
def spinTellsWrong : ChangeSpec := { name := "spinTells", fn := fun _ => fun
  | [d1, d2, d3] => { results := [.lit (.bool false)], args := [d1, d2, d3] }
  | _ => none }
def SpinTellsWrongFalsely : Prop := spinTellsRow.holds Tryd.pinned (OpenSpec.ofChange spinTellsWrong)

/-- 'earshotlaw09.SpinTurns': WHATEVER THE INPUT: true; the input reads as it did. -/
def spinTurnsSpec : ChangeSpec := { name := "spinTurns", fn := fun _ => fun
  | [d1, d2] => { results := [.lit (.bool true)], args := [d1, d2] }
  | _ => none }
def spinTurnsRow : OpenClaim := { program := "ytcnpbkgnoeoccaadoor", sum := "f8ad6c728fca175312759cf7741bea43ad7d860189d0ed453a8aeafa4a64ac75", func := "earshot/earshotlaw09.SpinTurns", spec := "spinTurns", unfollowed := true, recurses := true, named := ["earshot/circle.quarter"], apart := false, laid := [("earshot/circle.quarter", laid_earshot_circle_quarter)] }
def SpinTurnsSaid : Prop := spinTurnsRow.holds Tryd.pinned (OpenSpec.ofChange spinTurnsSpec)

/-- ITS FALSE NEIGHBOUR: 'it returns false'. Refute it at one input. -/
def spinTurnsWrong : ChangeSpec := { name := "spinTurns", fn := fun _ => fun
  | [d1, d2] => { results := [.lit (.bool false)], args := [d1, d2] }
  | _ => none }
def SpinTurnsWrongFalsely : Prop := spinTurnsRow.holds Tryd.pinned (OpenSpec.ofChange spinTurnsWrong)

/-- 'earshotlaw09.SpinSums': WHATEVER THE INPUT: true; the input reads as it did. -/
def spinSumsSpec : ChangeSpec := { name := "spinSums", fn := fun _ => fun
  | [d1, d2, d3] => { results := [.lit (.bool true)], args := [d1, d2, d3] }
  | _ => none }
def spinSumsRow : OpenClaim := { program := "ytcnpbkgnoeoccaadoor", sum := "f8ad6c728fca175312759cf7741bea43ad7d860189d0ed453a8aeafa4a64ac75", func := "earshot/earshotlaw09.SpinSums", spec := "spinSums", unfollowed := true, recurses := true, named := ["earshot/circle.quarter"], apart := false, laid := [("earshot/circle.quarter", laid_earshot_circle_quarter)] }
def SpinSumsSaid : Prop := spinSumsRow.holds Tryd.pinned (OpenSpec.ofChange spinSumsSpec)

/-- ITS FALSE NEIGHBOUR: 'it returns false'. Refute it at one input. -/
def spinSumsWrong : ChangeSpec := { name := "spinSums", fn := fun _ => fun
  | [d1, d2, d3] => { results := [.lit (.bool false)], args := [d1, d2, d3] }
  | _ => none }
def SpinSumsWrongFalsely : Prop := spinSumsRow.holds Tryd.pinned (OpenSpec.ofChange spinSumsWrong)

/-- 'earshotlaw09.SpinQuarter': WHATEVER THE INPUT: true; the input reads as it did. -/
def spinQuarterSpec : ChangeSpec := { name := "spinQuarter", fn := fun _ => fun
  | [d1, d2] => { results := [.lit (.bool true)], args := [d1, d2] }
  | _ => none }
def spinQuarterRow : OpenClaim := { program := "ytcnpbkgnoeoccaadoor", sum := "f8ad6c728fca175312759cf7741bea43ad7d860189d0ed453a8aeafa4a64ac75", func := "earshot/earshotlaw09.SpinQuarter", spec := "spinQuarter", unfollowed := true, recurses := true, named := ["earshot/circle.quarter"], apart := false, laid := [("earshot/circle.quarter", laid_earshot_circle_quarter)] }
def SpinQuarterSaid : Prop := spinQuarterRow.holds Tryd.pinned (OpenSpec.ofChange spinQuarterSpec)

/-- ITS FALSE NEIGHBOUR: 'it returns false'. Refute it at one input. -/
def spinQuarterWrong : ChangeSpec := { name := "spinQuarter", fn := fun _ => fun
  | [d1, d2] => { results := [.lit (.bool false)], args := [d1, d2] }
  | _ => none }
def SpinQuarterWrongFalsely : Prop := spinQuarterRow.holds Tryd.pinned (OpenSpec.ofChange spinQuarterWrong)

/-- 'earshotlaw09.SpinSizes': WHATEVER THE INPUT: true; the input reads as it did. -/
def spinSizesSpec : ChangeSpec := { name := "spinSizes", fn := fun _ => fun
  | [d1, d2, d3] => { results := [.lit (.bool true)], args := [d1, d2, d3] }
  | _ => none }
def spinSizesRow : OpenClaim := { program := "ytcnpbkgnoeoccaadoor", sum := "f8ad6c728fca175312759cf7741bea43ad7d860189d0ed453a8aeafa4a64ac75", func := "earshot/earshotlaw09.SpinSizes", spec := "spinSizes", unfollowed := true, recurses := true, named := ["earshot/circle.quarter"], apart := false, laid := [("earshot/circle.quarter", laid_earshot_circle_quarter)] }
def SpinSizesSaid : Prop := spinSizesRow.holds Tryd.pinned (OpenSpec.ofChange spinSizesSpec)

/-- ITS FALSE NEIGHBOUR: 'it returns false'. Refute it at one input. -/
def spinSizesWrong : ChangeSpec := { name := "spinSizes", fn := fun _ => fun
  | [d1, d2, d3] => { results := [.lit (.bool false)], args := [d1, d2, d3] }
  | _ => none }
def SpinSizesWrongFalsely : Prop := spinSizesRow.holds Tryd.pinned (OpenSpec.ofChange spinSizesWrong)

/- THE SECOND FORM. 'bulk': how many values and letters a reading holds, each counted each time it is reached (what is shared counts as often as it is met; a slice's spare places count too). A statement '..UptoSaid' is the law's where the arguments, and the package variables that the reading takes, are together of bulk at most 1048576: NARROWER than '..Said'. Prove '..Said' where nothing that the law and all that it calls make is longer than what came in: it says more and counts as full. Else prove '..UptoSaid'. A law counts once. -/
mutual
def uptoBulk {H : Type} : DataW H → Nat
  | .lit (.string bytes) => bytes.length + 1
  | .lit _ => 1
  | .nil => 1
  | .ptr d => uptoBulk d + 1
  | .slice elems spare => uptoBulkAll elems + uptoBulkAll spare + 1
  | .agg parts => uptoBulkAll parts + 1
  | .iface _ d => uptoBulk d + 1
  | .map entries => uptoBulkEntries entries + 1
  | .held _ => 1
def uptoBulkAll {H : Type} : List (DataW H) → Nat
  | [] => 0
  | d :: r => uptoBulk d + uptoBulkAll r
def uptoBulkEntries {H : Type} : List (Lit × DataW H) → Nat
  | [] => 0
  | x :: r => uptoBulkEntry x + uptoBulkEntries r
def uptoBulkEntry {H : Type} : Lit × DataW H → Nat
  | (.string bytes, d) => bytes.length + uptoBulk d + 1
  | (_, d) => uptoBulk d + 1
 end
def uptoSmall : (H : Type) → List (DataW H) → Bool := fun _ ds => decide (uptoBulkAll ds ≤ 1048576)
def OpenSpec.upto (s : _root_.Go.ChangeSpec) : _root_.Go.OpenSpec := { _root_.Go.OpenSpec.ofChange s with cond := some uptoSmall }

/-- 'earshotlaw09.SpinTells', WHERE WHAT IT READS IS OF BULK AT MOST 1048576: true; the input reads as it did. -/
def spinTellsUptoRow : OpenClaim := { program := "ytcnpbkgnoeoccaadoor", sum := "f8ad6c728fca175312759cf7741bea43ad7d860189d0ed453a8aeafa4a64ac75", func := "earshot/earshotlaw09.SpinTells", spec := "spinTells", unfollowed := true, recurses := true, named := ["earshot/circle.quarter"], apart := false, laid := [("earshot/circle.quarter", laid_earshot_circle_quarter)], narrowed := true }
def SpinTellsUptoSaid : Prop := spinTellsUptoRow.holds Tryd.pinned (OpenSpec.upto spinTellsSpec)

/-- 'earshotlaw09.SpinTurns', WHERE WHAT IT READS IS OF BULK AT MOST 1048576: true; the input reads as it did. -/
def spinTurnsUptoRow : OpenClaim := { program := "ytcnpbkgnoeoccaadoor", sum := "f8ad6c728fca175312759cf7741bea43ad7d860189d0ed453a8aeafa4a64ac75", func := "earshot/earshotlaw09.SpinTurns", spec := "spinTurns", unfollowed := true, recurses := true, named := ["earshot/circle.quarter"], apart := false, laid := [("earshot/circle.quarter", laid_earshot_circle_quarter)], narrowed := true }
def SpinTurnsUptoSaid : Prop := spinTurnsUptoRow.holds Tryd.pinned (OpenSpec.upto spinTurnsSpec)

/-- 'earshotlaw09.SpinSums', WHERE WHAT IT READS IS OF BULK AT MOST 1048576: true; the input reads as it did. -/
def spinSumsUptoRow : OpenClaim := { program := "ytcnpbkgnoeoccaadoor", sum := "f8ad6c728fca175312759cf7741bea43ad7d860189d0ed453a8aeafa4a64ac75", func := "earshot/earshotlaw09.SpinSums", spec := "spinSums", unfollowed := true, recurses := true, named := ["earshot/circle.quarter"], apart := false, laid := [("earshot/circle.quarter", laid_earshot_circle_quarter)], narrowed := true }
def SpinSumsUptoSaid : Prop := spinSumsUptoRow.holds Tryd.pinned (OpenSpec.upto spinSumsSpec)

/-- 'earshotlaw09.SpinQuarter', WHERE WHAT IT READS IS OF BULK AT MOST 1048576: true; the input reads as it did. -/
def spinQuarterUptoRow : OpenClaim := { program := "ytcnpbkgnoeoccaadoor", sum := "f8ad6c728fca175312759cf7741bea43ad7d860189d0ed453a8aeafa4a64ac75", func := "earshot/earshotlaw09.SpinQuarter", spec := "spinQuarter", unfollowed := true, recurses := true, named := ["earshot/circle.quarter"], apart := false, laid := [("earshot/circle.quarter", laid_earshot_circle_quarter)], narrowed := true }
def SpinQuarterUptoSaid : Prop := spinQuarterUptoRow.holds Tryd.pinned (OpenSpec.upto spinQuarterSpec)

/-- 'earshotlaw09.SpinSizes', WHERE WHAT IT READS IS OF BULK AT MOST 1048576: true; the input reads as it did. -/
def spinSizesUptoRow : OpenClaim := { program := "ytcnpbkgnoeoccaadoor", sum := "f8ad6c728fca175312759cf7741bea43ad7d860189d0ed453a8aeafa4a64ac75", func := "earshot/earshotlaw09.SpinSizes", spec := "spinSizes", unfollowed := true, recurses := true, named := ["earshot/circle.quarter"], apart := false, laid := [("earshot/circle.quarter", laid_earshot_circle_quarter)], narrowed := true }
def SpinSizesUptoSaid : Prop := spinSizesUptoRow.holds Tryd.pinned (OpenSpec.upto spinSizesSpec)

end Rows
end Go.Proofs.YtcnpbkgnoeoccaaDoor
