/-
  No cell of these rows narrows 'for every input' (looked for: loops, veiled, ifaces, maps, wideKeys, modest, calm, conditions, laid).
  DERIVED. THE GIVEN ROWS OF THIS SEAT. 5 by the template 'for every input the law returns true; each argument reads behind the call as it read before'; 0 by the template 'total and deterministic' (their statements: YtofmkhjdnmgdlaaTotals.lean).
  GIVEN WITH THE SEED: the statements are not yours to turn. If you find one false, say at which input.
  Laid BY PROGRAM, IN A SANDBOX (cutbox-rows.mjs): the forced cells as the released guide's own fill.sh prints them over the translation c0bd26ddeacdef01… (all of the seat's roots in one cut). By AI agents, Wed Nov 11 2026. No macro, syntax, notation, axiom, sorry.
-/
import Derived.Test.YtofmkhjdnmgdlaaChecked
import GoSem.Claim
import GoSem.ClaimJoined
import GoSem.ClaimMapViews
import Derived.JoinedTies
import Derived.KernelRfl
namespace Go.Proofs.Ytofmkhjdnmgdlaa
/- THE CELL 'sum', in the pinned program and in every row, IS THE sha256 OF THE DUMP (.gsa) THAT YtofmkhjdnmgdlaaProg.lean LOADS. Nothing in Lean hashes anything: it is a label: what it is worth is what the hold of that sum in a sandbox is worth. -/
noncomputable def Try.pinned : Pinned := { name := "ytofmkhjdnmgdlaa", sum := "c0bd26ddeacdef0162dca4404e8d17cf13b106cf9eb20b5587a2804e159c296a", checked := Try.checked }
namespace Rows
def none {H : Type} : Left H := { results := [], args := [] }

/-- 'earshotlaw01.SatTells': WHATEVER THE INPUT: true; the input reads as it did. -/
def satTellsSpec : ChangeSpec := { name := "satTells", fn := fun _ => fun
  | [d1, d2, d3] => { results := [.lit (.bool true)], args := [d1, d2, d3] }
  | _ => none }
def satTellsRow : OpenClaim := { program := "ytofmkhjdnmgdlaa", sum := "c0bd26ddeacdef0162dca4404e8d17cf13b106cf9eb20b5587a2804e159c296a", func := "earshot/earshotlaw01.SatTells", spec := "satTells", inPlace := ["math/bits.Add64"], unfollowed := true, recurses := true, apart := false }
def SatTellsSaid : Prop := satTellsRow.holds Try.pinned (OpenSpec.ofChange satTellsSpec)

/-- ITS FALSE NEIGHBOUR: 'it returns false'. Refute it at one input. -/
def satTellsWrong : ChangeSpec := { name := "satTells", fn := fun _ => fun
  | [d1, d2, d3] => { results := [.lit (.bool false)], args := [d1, d2, d3] }
  | _ => none }
def SatTellsWrongFalsely : Prop := satTellsRow.holds Try.pinned (OpenSpec.ofChange satTellsWrong)

/-- 'earshotlaw01.SatOrder': WHATEVER THE INPUT: true; the input reads as it did. -/
def satOrderSpec : ChangeSpec := { name := "satOrder", fn := fun _ => fun
  | [d1, d2, d3] => { results := [.lit (.bool true)], args := [d1, d2, d3] }
  | _ => none }
def satOrderRow : OpenClaim := { program := "ytofmkhjdnmgdlaa", sum := "c0bd26ddeacdef0162dca4404e8d17cf13b106cf9eb20b5587a2804e159c296a", func := "earshot/earshotlaw01.SatOrder", spec := "satOrder", inPlace := ["math/bits.Add64"], unfollowed := true, recurses := true, apart := false }
def SatOrderSaid : Prop := satOrderRow.holds Try.pinned (OpenSpec.ofChange satOrderSpec)

/-- ITS FALSE NEIGHBOUR: 'it returns false'. Refute it at one input. -/
def satOrderWrong : ChangeSpec := { name := "satOrder", fn := fun _ => fun
  | [d1, d2, d3] => { results := [.lit (.bool false)], args := [d1, d2, d3] }
  | _ => none }
def SatOrderWrongFalsely : Prop := satOrderRow.holds Try.pinned (OpenSpec.ofChange satOrderWrong)

/-- 'earshotlaw01.SatSum': WHATEVER THE INPUT: true; the input reads as it did. -/
def satSumSpec : ChangeSpec := { name := "satSum", fn := fun _ => fun
  | [d1, d2] => { results := [.lit (.bool true)], args := [d1, d2] }
  | _ => none }
def satSumRow : OpenClaim := { program := "ytofmkhjdnmgdlaa", sum := "c0bd26ddeacdef0162dca4404e8d17cf13b106cf9eb20b5587a2804e159c296a", func := "earshot/earshotlaw01.SatSum", spec := "satSum", inPlace := ["math/bits.Add64"], unfollowed := true, recurses := true, apart := false }
def SatSumSaid : Prop := satSumRow.holds Try.pinned (OpenSpec.ofChange satSumSpec)

/-- ITS FALSE NEIGHBOUR: 'it returns false'. Refute it at one input. -/
def satSumWrong : ChangeSpec := { name := "satSum", fn := fun _ => fun
  | [d1, d2] => { results := [.lit (.bool false)], args := [d1, d2] }
  | _ => none }
def SatSumWrongFalsely : Prop := satSumRow.holds Try.pinned (OpenSpec.ofChange satSumWrong)

/-- 'earshotlaw01.SatMul': WHATEVER THE INPUT: true; the input reads as it did. -/
def satMulSpec : ChangeSpec := { name := "satMul", fn := fun _ => fun
  | [d1, d2, d3] => { results := [.lit (.bool true)], args := [d1, d2, d3] }
  | _ => none }
def satMulRow : OpenClaim := { program := "ytofmkhjdnmgdlaa", sum := "c0bd26ddeacdef0162dca4404e8d17cf13b106cf9eb20b5587a2804e159c296a", func := "earshot/earshotlaw01.SatMul", spec := "satMul", inPlace := ["math/bits.Add64"], unfollowed := true, recurses := true, apart := false }
def SatMulSaid : Prop := satMulRow.holds Try.pinned (OpenSpec.ofChange satMulSpec)

/-- ITS FALSE NEIGHBOUR: 'it returns false'. Refute it at one input. -/
def satMulWrong : ChangeSpec := { name := "satMul", fn := fun _ => fun
  | [d1, d2, d3] => { results := [.lit (.bool false)], args := [d1, d2, d3] }
  | _ => none }
def SatMulWrongFalsely : Prop := satMulRow.holds Try.pinned (OpenSpec.ofChange satMulWrong)

/-- 'earshotlaw01.SatAdds': WHATEVER THE INPUT: true; the input reads as it did. -/
def satAddsSpec : ChangeSpec := { name := "satAdds", fn := fun _ => fun
  | [d1, d2, d3] => { results := [.lit (.bool true)], args := [d1, d2, d3] }
  | _ => none }
def satAddsRow : OpenClaim := { program := "ytofmkhjdnmgdlaa", sum := "c0bd26ddeacdef0162dca4404e8d17cf13b106cf9eb20b5587a2804e159c296a", func := "earshot/earshotlaw01.SatAdds", spec := "satAdds", inPlace := ["math/bits.Add64"], unfollowed := true, recurses := true, apart := false }
def SatAddsSaid : Prop := satAddsRow.holds Try.pinned (OpenSpec.ofChange satAddsSpec)

/-- ITS FALSE NEIGHBOUR: 'it returns false'. Refute it at one input. -/
def satAddsWrong : ChangeSpec := { name := "satAdds", fn := fun _ => fun
  | [d1, d2, d3] => { results := [.lit (.bool false)], args := [d1, d2, d3] }
  | _ => none }
def SatAddsWrongFalsely : Prop := satAddsRow.holds Try.pinned (OpenSpec.ofChange satAddsWrong)

/- THE SECOND FORM. 'bulk': how many values and letters a reading holds, each counted each time it is reached (what is shared counts as often as it is met; a slice's spare places count too). A statement '..UptoSaid' is the law's where the arguments, and the package variables that the reading takes, are together of bulk at most 1048576: NARROWER than '..Said'. Prove '..Said' where nothing that the law and all that it calls make is longer than what came in: it says more and counts as full. Else prove '..UptoSaid'. A law counts once. -/
mutual
def uptoBulk {H : Type} : DataW H → Nat
  | .lit (.string bytes) => bytes.length + 1
  | .lit _ => 1
  | .nil => 1
  | .ptr d => uptoBulk d + 1
  | .slice elems spare => uptoBulkAll elems + uptoBulkAll spare + 1
  | .agg parts => uptoBulkAll parts + 1
  | .iface _ d => uptoBulk d + 1
  | .map entries => uptoBulkEntries entries + 1
  | .held _ => 1
def uptoBulkAll {H : Type} : List (DataW H) → Nat
  | [] => 0
  | d :: r => uptoBulk d + uptoBulkAll r
def uptoBulkEntries {H : Type} : List (Lit × DataW H) → Nat
  | [] => 0
  | x :: r => uptoBulkEntry x + uptoBulkEntries r
def uptoBulkEntry {H : Type} : Lit × DataW H → Nat
  | (.string bytes, d) => bytes.length + uptoBulk d + 1
  | (_, d) => uptoBulk d + 1
 end
def uptoSmall : (H : Type) → List (DataW H) → Bool := fun _ ds => decide (uptoBulkAll ds ≤ 1048576)
def OpenSpec.upto (s : _root_.Go.ChangeSpec) : _root_.Go.OpenSpec := { _root_.Go.OpenSpec.ofChange s with cond := some uptoSmall }

/-- 'earshotlaw01.SatTells', WHERE WHAT IT READS IS OF BULK AT MOST 1048576: true; the input reads as it did. -/
def satTellsUptoRow : OpenClaim := { program := "ytofmkhjdnmgdlaa", sum := "c0bd26ddeacdef0162dca4404e8d17cf13b106cf9eb20b5587a2804e159c296a", func := "earshot/earshotlaw01.SatTells", spec := "satTells", inPlace := ["math/bits.Add64"], unfollowed := true, recurses := true, apart := false, narrowed := true }
def SatTellsUptoSaid : Prop := satTellsUptoRow.holds Try.pinned (OpenSpec.upto satTellsSpec)

/-- 'earshotlaw01.SatOrder', WHERE WHAT IT READS IS OF BULK AT MOST 1048576: true; the input reads as it did. -/
def satOrderUptoRow : OpenClaim := { program := "ytofmkhjdnmgdlaa", sum := "c0bd26ddeacdef0162dca4404e8d17cf13b106cf9eb20b5587a2804e159c296a", func := "earshot/earshotlaw01.SatOrder", spec := "satOrder", inPlace := ["math/bits.Add64"], unfollowed := true, recurses := true, apart := false, narrowed := true }
def SatOrderUptoSaid : Prop := satOrderUptoRow.holds Try.pinned (OpenSpec.upto satOrderSpec)

/-- 'earshotlaw01.SatSum', WHERE WHAT IT READS IS OF BULK AT MOST 1048576: true; the input reads as it did. -/
def satSumUptoRow : OpenClaim := { program := "ytofmkhjdnmgdlaa", sum := "c0bd26ddeacdef0162dca4404e8d17cf13b106cf9eb20b5587a2804e159c296a", func := "earshot/earshotlaw01.SatSum", spec := "satSum", inPlace := ["math/bits.Add64"], unfollowed := true, recurses := true, apart := false, narrowed := true }
def SatSumUptoSaid : Prop := satSumUptoRow.holds Try.pinned (OpenSpec.upto satSumSpec)

/-- 'earshotlaw01.SatMul', WHERE WHAT IT READS IS OF BULK AT MOST 1048576: true; the input reads as it did. -/
def satMulUptoRow : OpenClaim := { program := "ytofmkhjdnmgdlaa", sum := "c0bd26ddeacdef0162dca4404e8d17cf13b106cf9eb20b5587a2804e159c296a", func := "earshot/earshotlaw01.SatMul", spec := "satMul", inPlace := ["math/bits.Add64"], unfollowed := true, recurses := true, apart := false, narrowed := true }
def SatMulUptoSaid : Prop := satMulUptoRow.holds Try.pinned (OpenSpec.upto satMulSpec)

/-- 'earshotlaw01.SatAdds', WHERE WHAT IT READS IS OF BULK AT MOST 1048576: true; the input reads as it did. -/
def satAddsUptoRow : OpenClaim := { program := "ytofmkhjdnmgdlaa", sum := "c0bd26ddeacdef0162dca4404e8d17cf13b106cf9eb20b5587a2804e159c296a", func := "earshot/earshotlaw01.SatAdds", spec := "satAdds", inPlace := ["math/bits.Add64"], unfollowed := true, recurses := true, apart := false, narrowed := true }
def SatAddsUptoSaid : Prop := satAddsUptoRow.holds Try.pinned (OpenSpec.upto satAddsSpec)

end Rows
end Go.Proofs.Ytofmkhjdnmgdlaa
