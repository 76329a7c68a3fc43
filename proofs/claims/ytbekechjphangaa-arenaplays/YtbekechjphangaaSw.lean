/- The switch of ArenaPlays, taken out of the translation. -/
import Derived.Test.YtbekechjphangaaState
import Derived.Test.YtbekechjphangaaSsa
import Derived.Deep.CutBlock
import Derived.Deep.DeepCutAuto
import Derived.Deep.QuietTactic
import Derived.BigQuiet
namespace Go.Proofs.Ytbekechjphangaa
open Go.RowKit
set_option linter.unusedVariables false

/-- Block n of a text. -/
def findBlock (n : Nat) : Code → Option Code
  | .block m c => if m = n then some (.block m c) else findBlock n c
  | .seq a b => match findBlock n a with
    | some c => some c
    | none => findBlock n b
  | .loop c => findBlock n c
  | .scope c => findBlock n c
  | .cond _ a b => match findBlock n a with
    | some c => some c
    | none => findBlock n b
  | _ => none
noncomputable def sw2 : Code := (Try.f3.body.bind (findBlock 2)).getD .skip
end Go.Proofs.Ytbekechjphangaa
