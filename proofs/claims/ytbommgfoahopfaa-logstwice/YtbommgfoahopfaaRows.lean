/-
  No cell of these rows narrows 'for every input' (looked for: loops, veiled, ifaces, maps, wideKeys, modest, calm, conditions, laid).
  DERIVED. THE GIVEN ROWS OF THIS SEAT. 5 by the template 'for every input the law returns true; each argument reads behind the call as it read before'; 0 by the template 'total and deterministic' (their statements: YtbommgfoahopfaaTotals.lean).
  GIVEN WITH THE SEED: the statements are not yours to turn. If you find one false, say at which input.
  Laid BY PROGRAM, IN A SANDBOX (cutbox-rows.mjs): the forced cells as the released guide's own fill.sh prints them over the translation 96c9ec9e9df11319… (all of the seat's roots in one cut). By AI agents, Wed Nov 11 2026. No macro, syntax, notation, axiom, sorry.
-/
import Derived.Test.YtbommgfoahopfaaChecked
import GoSem.Claim
import GoSem.ClaimJoined
import GoSem.ClaimMapViews
import Derived.JoinedTies
import Derived.KernelRfl
namespace Go.Proofs.Ytbommgfoahopfaa
/- THE CELL 'sum', in the pinned program and in every row, IS THE sha256 OF THE DUMP (.gsa) THAT YtbommgfoahopfaaProg.lean LOADS. Nothing in Lean hashes anything: it is a label: what it is worth is what the hold of that sum in a sandbox is worth. -/
noncomputable def Try.pinned : Pinned := { name := "ytbommgfoahopfaa", sum := "96c9ec9e9df1131906f603eb5f11d8964cf42118cb45f14fcc02f7f1fb80bcb6", checked := Try.checked }
namespace Rows
def none {H : Type} : Left H := { results := [], args := [] }

/-- 'earshotlaw03.LogsTell': WHATEVER THE INPUT: true; the input reads as it did. -/
def logsTellSpec : ChangeSpec := { name := "logsTell", fn := fun _ => fun
  | [d1, d2] => { results := [.lit (.bool true)], args := [d1, d2] }
  | _ => none }
def logsTellRow : OpenClaim := { program := "ytbommgfoahopfaa", sum := "96c9ec9e9df1131906f603eb5f11d8964cf42118cb45f14fcc02f7f1fb80bcb6", func := "earshot/earshotlaw03.LogsTell", spec := "logsTell", unfollowed := true, recurses := true, apart := false }
def LogsTellSaid : Prop := logsTellRow.holds Try.pinned (OpenSpec.ofChange logsTellSpec)

/-- ITS FALSE NEIGHBOUR: 'it returns false'. Refute it at one input. -/
def logsTellWrong : ChangeSpec := { name := "logsTell", fn := fun _ => fun
  | [d1, d2] => { results := [.lit (.bool false)], args := [d1, d2] }
  | _ => none }
def LogsTellWrongFalsely : Prop := logsTellRow.holds Try.pinned (OpenSpec.ofChange logsTellWrong)

/-- 'earshotlaw03.LogsOrder': WHATEVER THE INPUT: true; the input reads as it did. -/
def logsOrderSpec : ChangeSpec := { name := "logsOrder", fn := fun _ => fun
  | [d1, d2] => { results := [.lit (.bool true)], args := [d1, d2] }
  | _ => none }
def logsOrderRow : OpenClaim := { program := "ytbommgfoahopfaa", sum := "96c9ec9e9df1131906f603eb5f11d8964cf42118cb45f14fcc02f7f1fb80bcb6", func := "earshot/earshotlaw03.LogsOrder", spec := "logsOrder", unfollowed := true, recurses := true, apart := false }
def LogsOrderSaid : Prop := logsOrderRow.holds Try.pinned (OpenSpec.ofChange logsOrderSpec)

/-- ITS FALSE NEIGHBOUR: 'it returns false'. Refute it at one input. -/
def logsOrderWrong : ChangeSpec := { name := "logsOrder", fn := fun _ => fun
  | [d1, d2] => { results := [.lit (.bool false)], args := [d1, d2] }
  | _ => none }
def LogsOrderWrongFalsely : Prop := logsOrderRow.holds Try.pinned (OpenSpec.ofChange logsOrderWrong)

/-- 'earshotlaw03.LogsTwice': WHATEVER THE INPUT: true; the input reads as it did. -/
def logsTwiceSpec : ChangeSpec := { name := "logsTwice", fn := fun _ => fun
  | [d1, d2, d3] => { results := [.lit (.bool true)], args := [d1, d2, d3] }
  | _ => none }
def logsTwiceRow : OpenClaim := { program := "ytbommgfoahopfaa", sum := "96c9ec9e9df1131906f603eb5f11d8964cf42118cb45f14fcc02f7f1fb80bcb6", func := "earshot/earshotlaw03.LogsTwice", spec := "logsTwice", unfollowed := true, recurses := true, apart := false }
def LogsTwiceSaid : Prop := logsTwiceRow.holds Try.pinned (OpenSpec.ofChange logsTwiceSpec)

/-- ITS FALSE NEIGHBOUR: 'it returns false'. Refute it at one input. -/
def logsTwiceWrong : ChangeSpec := { name := "logsTwice", fn := fun _ => fun
  | [d1, d2, d3] => { results := [.lit (.bool false)], args := [d1, d2, d3] }
  | _ => none }
def LogsTwiceWrongFalsely : Prop := logsTwiceRow.holds Try.pinned (OpenSpec.ofChange logsTwiceWrong)

/-- 'earshotlaw03.LogsRoot': WHATEVER THE INPUT: true; the input reads as it did. -/
def logsRootSpec : ChangeSpec := { name := "logsRoot", fn := fun _ => fun
  | [d1, d2] => { results := [.lit (.bool true)], args := [d1, d2] }
  | _ => none }
def logsRootRow : OpenClaim := { program := "ytbommgfoahopfaa", sum := "96c9ec9e9df1131906f603eb5f11d8964cf42118cb45f14fcc02f7f1fb80bcb6", func := "earshot/earshotlaw03.LogsRoot", spec := "logsRoot", unfollowed := true, recurses := true, apart := false }
def LogsRootSaid : Prop := logsRootRow.holds Try.pinned (OpenSpec.ofChange logsRootSpec)

/-- ITS FALSE NEIGHBOUR: 'it returns false'. Refute it at one input. -/
def logsRootWrong : ChangeSpec := { name := "logsRoot", fn := fun _ => fun
  | [d1, d2] => { results := [.lit (.bool false)], args := [d1, d2] }
  | _ => none }
def LogsRootWrongFalsely : Prop := logsRootRow.holds Try.pinned (OpenSpec.ofChange logsRootWrong)

/-- 'earshotlaw03.LogsNorm': WHATEVER THE INPUT: true; the input reads as it did. -/
def logsNormSpec : ChangeSpec := { name := "logsNorm", fn := fun _ => fun
  | [d] => { results := [.lit (.bool true)], args := [d] }
  | _ => none }
def logsNormRow : OpenClaim := { program := "ytbommgfoahopfaa", sum := "96c9ec9e9df1131906f603eb5f11d8964cf42118cb45f14fcc02f7f1fb80bcb6", func := "earshot/earshotlaw03.LogsNorm", spec := "logsNorm", unfollowed := true, recurses := true, apart := false }
def LogsNormSaid : Prop := logsNormRow.holds Try.pinned (OpenSpec.ofChange logsNormSpec)

/-- ITS FALSE NEIGHBOUR: 'it returns false'. Refute it at one input. -/
def logsNormWrong : ChangeSpec := { name := "logsNorm", fn := fun _ => fun
  | [d] => { results := [.lit (.bool false)], args := [d] }
  | _ => none }
def LogsNormWrongFalsely : Prop := logsNormRow.holds Try.pinned (OpenSpec.ofChange logsNormWrong)

/- THE SECOND FORM. 'bulk': how many values and letters a reading holds, each counted each time it is reached (what is shared counts as often as it is met; a slice's spare places count too). A statement '..UptoSaid' is the law's where the arguments, and the package variables that the reading takes, are together of bulk at most 1048576: NARROWER than '..Said'. Prove '..Said' where nothing that the law and all that it calls make is longer than what came in: it says more and counts as full. Else prove '..UptoSaid'. A law counts once. -/
mutual
def uptoBulk {H : Type} : DataW H → Nat
  | .lit (.string bytes) => bytes.length + 1
  | .lit _ => 1
  | .nil => 1
  | .ptr d => uptoBulk d + 1
  | .slice elems spare => uptoBulkAll elems + uptoBulkAll spare + 1
  | .agg parts => uptoBulkAll parts + 1
  | .iface _ d => uptoBulk d + 1
  | .map entries => uptoBulkEntries entries + 1
  | .held _ => 1
def uptoBulkAll {H : Type} : List (DataW H) → Nat
  | [] => 0
  | d :: r => uptoBulk d + uptoBulkAll r
def uptoBulkEntries {H : Type} : List (Lit × DataW H) → Nat
  | [] => 0
  | x :: r => uptoBulkEntry x + uptoBulkEntries r
def uptoBulkEntry {H : Type} : Lit × DataW H → Nat
  | (.string bytes, d) => bytes.length + uptoBulk d + 1
  | (_, d) => uptoBulk d + 1
 end
def uptoSmall : (H : Type) → List (DataW H) → Bool := fun _ ds => decide (uptoBulkAll ds ≤ 1048576)
def OpenSpec.upto (s : _root_.Go.ChangeSpec) : _root_.Go.OpenSpec := { _root_.Go.OpenSpec.ofChange s with cond := some uptoSmall }

/-- 'earshotlaw03.LogsTell', WHERE WHAT IT READS IS OF BULK AT MOST 1048576: true; the input reads as it did. -/
def logsTellUptoRow : OpenClaim := { program := "ytbommgfoahopfaa", sum := "96c9ec9e9df1131906f603eb5f11d8964cf42118cb45f14fcc02f7f1fb80bcb6", func := "earshot/earshotlaw03.LogsTell", spec := "logsTell", unfollowed := true, recurses := true, apart := false, narrowed := true }
def LogsTellUptoSaid : Prop := logsTellUptoRow.holds Try.pinned (OpenSpec.upto logsTellSpec)

/-- 'earshotlaw03.LogsOrder', WHERE WHAT IT READS IS OF BULK AT MOST 1048576: true; the input reads as it did. -/
def logsOrderUptoRow : OpenClaim := { program := "ytbommgfoahopfaa", sum := "96c9ec9e9df1131906f603eb5f11d8964cf42118cb45f14fcc02f7f1fb80bcb6", func := "earshot/earshotlaw03.LogsOrder", spec := "logsOrder", unfollowed := true, recurses := true, apart := false, narrowed := true }
def LogsOrderUptoSaid : Prop := logsOrderUptoRow.holds Try.pinned (OpenSpec.upto logsOrderSpec)

/-- 'earshotlaw03.LogsTwice', WHERE WHAT IT READS IS OF BULK AT MOST 1048576: true; the input reads as it did. -/
def logsTwiceUptoRow : OpenClaim := { program := "ytbommgfoahopfaa", sum := "96c9ec9e9df1131906f603eb5f11d8964cf42118cb45f14fcc02f7f1fb80bcb6", func := "earshot/earshotlaw03.LogsTwice", spec := "logsTwice", unfollowed := true, recurses := true, apart := false, narrowed := true }
def LogsTwiceUptoSaid : Prop := logsTwiceUptoRow.holds Try.pinned (OpenSpec.upto logsTwiceSpec)

/-- 'earshotlaw03.LogsRoot', WHERE WHAT IT READS IS OF BULK AT MOST 1048576: true; the input reads as it did. -/
def logsRootUptoRow : OpenClaim := { program := "ytbommgfoahopfaa", sum := "96c9ec9e9df1131906f603eb5f11d8964cf42118cb45f14fcc02f7f1fb80bcb6", func := "earshot/earshotlaw03.LogsRoot", spec := "logsRoot", unfollowed := true, recurses := true, apart := false, narrowed := true }
def LogsRootUptoSaid : Prop := logsRootUptoRow.holds Try.pinned (OpenSpec.upto logsRootSpec)

/-- 'earshotlaw03.LogsNorm', WHERE WHAT IT READS IS OF BULK AT MOST 1048576: true; the input reads as it did. -/
def logsNormUptoRow : OpenClaim := { program := "ytbommgfoahopfaa", sum := "96c9ec9e9df1131906f603eb5f11d8964cf42118cb45f14fcc02f7f1fb80bcb6", func := "earshot/earshotlaw03.LogsNorm", spec := "logsNorm", unfollowed := true, recurses := true, apart := false, narrowed := true }
def LogsNormUptoSaid : Prop := logsNormUptoRow.holds Try.pinned (OpenSpec.upto logsNormSpec)

end Rows
end Go.Proofs.Ytbommgfoahopfaa
