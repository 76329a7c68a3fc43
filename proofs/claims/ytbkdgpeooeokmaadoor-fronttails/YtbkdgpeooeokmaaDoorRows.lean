/-
  NARROWER THAN 'FOR EVERY INPUT', by the rows' own cells (each row's printed sentence says how): FrontCuts: laid · FrontMoves: laid · FrontTails: laid · FrontNil: laid.
  DERIVED. THE GIVEN ROWS OF THIS SEAT. 4 by the template 'for every input the law returns true; each argument reads behind the call as it read before'; 0 by the template 'total and deterministic' (their statements: YtbkdgpeooeokmaaDoorTotals.lean).
  GIVEN WITH THE SEED: the statements are not yours to turn. If you find one false, say at which input.
  Laid BY PROGRAM, IN A SANDBOX (cutbox-rows.mjs): the forced cells as the released guide's own fill.sh prints them over the translation 6d17d8c47663d92a… (all of the seat's roots in one cut). By AI agents, Wed Nov 11 2026. No macro, syntax, notation, axiom, sorry.
-/
import Derived.Test.YtbkdgpeooeokmaaDoorChecked
import GoSem.Claim
import GoSem.ClaimJoined
import GoSem.ClaimMapViews
import Derived.JoinedTies
import Derived.KernelRfl
namespace Go.Proofs.YtbkdgpeooeokmaaDoor
/- THE CELL 'sum', in the pinned program and in every row, IS THE sha256 OF THE DUMP (.gsa) THAT YtbkdgpeooeokmaaDoorProg.lean LOADS. Nothing in Lean hashes anything: it is a label: what it is worth is what the hold of that sum in a sandbox is worth. -/
noncomputable def Tryd.pinned : Pinned := { name := "ytbkdgpeooeokmaadoor", sum := "6d17d8c47663d92ab251230bce6e5f18e286c06b4caae34a2b764b26e8292c65", checked := Tryd.checked }
namespace Rows
def none {H : Type} : Left H := { results := [], args := [] }

/- WHAT THE LISTED PACKAGE-LEVEL VARIABLES READ AS WHEN THE CALL BEGINS. Each datum BY PROGRAM (the guide's laid-datum.mjs) off the statement by which the dump's own 'gosem.cut.vars' lays the variable. In a bare row this is a premise. The card (YtbkdgpeooeokmaaDoorCards.lean) ties it to the program's text. -/
def laid_earshot_circle_quarter {H : Type} : DataW H := .agg [.lit (.int .i64 16384), .lit (.int .i64 16305), .lit (.int .i64 16069), .lit (.int .i64 15679), .lit (.int .i64 15137), .lit (.int .i64 14449), .lit (.int .i64 13623), .lit (.int .i64 12665), .lit (.int .i64 11585), .lit (.int .i64 10394), .lit (.int .i64 9102), .lit (.int .i64 7723), .lit (.int .i64 6270), .lit (.int .i64 4756), .lit (.int .i64 3196), .lit (.int .i64 1606), .lit (.int .i64 0)]

/-- 'earshotlaw13.FrontCuts': WHATEVER THE INPUT: true; the input reads as it did. -/
def frontCutsSpec : ChangeSpec := { name := "frontCuts", fn := fun _ => fun
  | [d1, d2, d3] => { results := [.lit (.bool true)], args := [d1, d2, d3] }
  | _ => none }
def frontCutsRow : OpenClaim := { program := "ytbkdgpeooeokmaadoor", sum := "6d17d8c47663d92ab251230bce6e5f18e286c06b4caae34a2b764b26e8292c65", func := "earshot/earshotlaw13.FrontCuts", spec := "frontCuts", unfollowed := true, recurses := true, named := ["earshot/circle.quarter"], apart := false, laid := [("earshot/circle.quarter", laid_earshot_circle_quarter)] }
def FrontCutsSaid : Prop := frontCutsRow.holds Tryd.pinned (OpenSpec.ofChange frontCutsSpec)

/-- ITS FALSE NEIGHBOUR: 'it returns false'. Refute it at one input. -/
def frontCutsWrong : ChangeSpec := { name := "frontCuts", fn := fun _ => fun
  | [d1, d2, d3] => { results := [.lit (.bool false)], args := [d1, d2, d3] }
  | _ => none }
def FrontCutsWrongFalsely : Prop := frontCutsRow.holds Tryd.pinned (OpenSpec.ofChange frontCutsWrong)

/-- 'earshotlaw13.FrontMoves': WHATEVER THE INPUT: true; the input reads as it did. -/
def frontMovesSpec : ChangeSpec := { name := "frontMoves", fn := fun _ => fun
  | [d1, d2, d3] => { results := [.lit (.bool true)], args := [d1, d2, d3] }
  | _ => none }
def frontMovesRow : OpenClaim := { program := "ytbkdgpeooeokmaadoor", sum := "6d17d8c47663d92ab251230bce6e5f18e286c06b4caae34a2b764b26e8292c65", func := "earshot/earshotlaw13.FrontMoves", spec := "frontMoves", unfollowed := true, recurses := true, named := ["earshot/circle.quarter"], apart := false, laid := [("earshot/circle.quarter", laid_earshot_circle_quarter)] }
def FrontMovesSaid : Prop := frontMovesRow.holds Tryd.pinned (OpenSpec.ofChange frontMovesSpec)

/-- ITS FALSE NEIGHBOUR: 'it returns false'. Refute it at one input. -/
def frontMovesWrong : ChangeSpec := { name := "frontMoves", fn := fun _ => fun
  | [d1, d2, d3] => { results := [.lit (.bool false)], args := [d1, d2, d3] }
  | _ => none }
def FrontMovesWrongFalsely : Prop := frontMovesRow.holds Tryd.pinned (OpenSpec.ofChange frontMovesWrong)

/-- 'earshotlaw13.FrontTails': WHATEVER THE INPUT: true; the input reads as it did. -/
def frontTailsSpec : ChangeSpec := { name := "frontTails", fn := fun _ => fun
  | [d1, d2, d3] => { results := [.lit (.bool true)], args := [d1, d2, d3] }
  | _ => none }
def frontTailsRow : OpenClaim := { program := "ytbkdgpeooeokmaadoor", sum := "6d17d8c47663d92ab251230bce6e5f18e286c06b4caae34a2b764b26e8292c65", func := "earshot/earshotlaw13.FrontTails", spec := "frontTails", unfollowed := true, recurses := true, named := ["earshot/circle.quarter"], apart := false, laid := [("earshot/circle.quarter", laid_earshot_circle_quarter)] }
def FrontTailsSaid : Prop := frontTailsRow.holds Tryd.pinned (OpenSpec.ofChange frontTailsSpec)

/-- ITS FALSE NEIGHBOUR: 'it returns false'. Refute it at one input. -/
def frontTailsWrong : ChangeSpec := { name := "frontTails", fn := fun _ => fun
  | [d1, d2, d3] => { results := [.lit (.bool false)], args := [d1, d2, d3] }
  | _ => none }
def FrontTailsWrongFalsely : Prop := frontTailsRow.holds Tryd.pinned (OpenSpec.ofChange frontTailsWrong)

/-- 'earshotlaw13.FrontNil': WHATEVER THE INPUT: true; the input reads as it did. -/
def frontNilSpec : ChangeSpec := { name := "frontNil", fn := fun _ => fun
  | [d1, d2] => { results := [.lit (.bool true)], args := [d1, d2] }
  | _ => none }
def frontNilRow : OpenClaim := { program := "ytbkdgpeooeokmaadoor", sum := "6d17d8c47663d92ab251230bce6e5f18e286c06b4caae34a2b764b26e8292c65", func := "earshot/earshotlaw13.FrontNil", spec := "frontNil", unfollowed := true, recurses := true, named := ["earshot/circle.quarter"], apart := false, laid := [("earshot/circle.quarter", laid_earshot_circle_quarter)] }
def FrontNilSaid : Prop := frontNilRow.holds Tryd.pinned (OpenSpec.ofChange frontNilSpec)

/-- ITS FALSE NEIGHBOUR: 'it returns false'. Refute it at one input. -/
def frontNilWrong : ChangeSpec := { name := "frontNil", fn := fun _ => fun
  | [d1, d2] => { results := [.lit (.bool false)], args := [d1, d2] }
  | _ => none }
def FrontNilWrongFalsely : Prop := frontNilRow.holds Tryd.pinned (OpenSpec.ofChange frontNilWrong)

/- THE SECOND FORM. 'bulk': how many values and letters a reading holds, each counted each time it is reached (what is shared counts as often as it is met; a slice's spare places count too). A statement '..UptoSaid' is the law's where the arguments, and the package variables that the reading takes, are together of bulk at most 1048576: NARROWER than '..Said'. Prove '..Said' where nothing that the law and all that it calls make is longer than what came in: it says more and counts as full. Else prove '..UptoSaid'. A law counts once. -/
mutual
def uptoBulk {H : Type} : DataW H → Nat
  | .lit (.string bytes) => bytes.length + 1
  | .lit _ => 1
  | .nil => 1
  | .ptr d => uptoBulk d + 1
  | .slice elems spare => uptoBulkAll elems + uptoBulkAll spare + 1
  | .agg parts => uptoBulkAll parts + 1
  | .iface _ d => uptoBulk d + 1
  | .map entries => uptoBulkEntries entries + 1
  | .held _ => 1
def uptoBulkAll {H : Type} : List (DataW H) → Nat
  | [] => 0
  | d :: r => uptoBulk d + uptoBulkAll r
def uptoBulkEntries {H : Type} : List (Lit × DataW H) → Nat
  | [] => 0
  | x :: r => uptoBulkEntry x + uptoBulkEntries r
def uptoBulkEntry {H : Type} : Lit × DataW H → Nat
  | (.string bytes, d) => bytes.length + uptoBulk d + 1
  | (_, d) => uptoBulk d + 1
 end
def uptoSmall : (H : Type) → List (DataW H) → Bool := fun _ ds => decide (uptoBulkAll ds ≤ 1048576)
def OpenSpec.upto (s : _root_.Go.ChangeSpec) : _root_.Go.OpenSpec := { _root_.Go.OpenSpec.ofChange s with cond := some uptoSmall }

/-- 'earshotlaw13.FrontCuts', WHERE WHAT IT READS IS OF BULK AT MOST 1048576: true; the input reads as it did. -/
def frontCutsUptoRow : OpenClaim := { program := "ytbkdgpeooeokmaadoor", sum := "6d17d8c47663d92ab251230bce6e5f18e286c06b4caae34a2b764b26e8292c65", func := "earshot/earshotlaw13.FrontCuts", spec := "frontCuts", unfollowed := true, recurses := true, named := ["earshot/circle.quarter"], apart := false, laid := [("earshot/circle.quarter", laid_earshot_circle_quarter)], narrowed := true }
def FrontCutsUptoSaid : Prop := frontCutsUptoRow.holds Tryd.pinned (OpenSpec.upto frontCutsSpec)

/-- 'earshotlaw13.FrontMoves', WHERE WHAT IT READS IS OF BULK AT MOST 1048576: true; the input reads as it did. -/
def frontMovesUptoRow : OpenClaim := { program := "ytbkdgpeooeokmaadoor", sum := "6d17d8c47663d92ab251230bce6e5f18e286c06b4caae34a2b764b26e8292c65", func := "earshot/earshotlaw13.FrontMoves", spec := "frontMoves", unfollowed := true, recurses := true, named := ["earshot/circle.quarter"], apart := false, laid := [("earshot/circle.quarter", laid_earshot_circle_quarter)], narrowed := true }
def FrontMovesUptoSaid : Prop := frontMovesUptoRow.holds Tryd.pinned (OpenSpec.upto frontMovesSpec)

/-- 'earshotlaw13.FrontTails', WHERE WHAT IT READS IS OF BULK AT MOST 1048576: true; the input reads as it did. -/
def frontTailsUptoRow : OpenClaim := { program := "ytbkdgpeooeokmaadoor", sum := "6d17d8c47663d92ab251230bce6e5f18e286c06b4caae34a2b764b26e8292c65", func := "earshot/earshotlaw13.FrontTails", spec := "frontTails", unfollowed := true, recurses := true, named := ["earshot/circle.quarter"], apart := false, laid := [("earshot/circle.quarter", laid_earshot_circle_quarter)], narrowed := true }
def FrontTailsUptoSaid : Prop := frontTailsUptoRow.holds Tryd.pinned (OpenSpec.upto frontTailsSpec)

/-- 'earshotlaw13.FrontNil', WHERE WHAT IT READS IS OF BULK AT MOST 1048576: true; the input reads as it did. -/
def frontNilUptoRow : OpenClaim := { program := "ytbkdgpeooeokmaadoor", sum := "6d17d8c47663d92ab251230bce6e5f18e286c06b4caae34a2b764b26e8292c65", func := "earshot/earshotlaw13.FrontNil", spec := "frontNil", unfollowed := true, recurses := true, named := ["earshot/circle.quarter"], apart := false, laid := [("earshot/circle.quarter", laid_earshot_circle_quarter)], narrowed := true }
def FrontNilUptoSaid : Prop := frontNilUptoRow.holds Tryd.pinned (OpenSpec.upto frontNilSpec)

end Rows
end Go.Proofs.YtbkdgpeooeokmaaDoor
