/- The state while a tail's row of noughts is made (FrontTails). -/
import Derived.Test.YtbkdgpeooeokmaaDoorFrontRtail
import Derived.Test.YtbkdgpeooeokmaaDoorFrontKeep
namespace Go.Proofs.YtbkdgpeooeokmaaDoor
open Go.RowKit
set_option linter.unusedVariables false

/-- What holds of the world while the row of noughts is made: b tells whether it has been stored. -/
structure TailZ (w3 : World) (lo G m : Nat) (fr : List Value) (x y : Value) (b : Bool) (W : World) : Prop where
  front : Cells W G fr
  only : Only (G + 1) w3 W
  count : W.cell? ⟨G + 1, 0, none⟩ = some x
  still : b = false → Cells W (G + 1) [x, y, .slice none 0 0]
  done : b = true → ∃ v, W.ownsRow lo 3 1 v m (ints (List.replicate m 0)) ∧ Cells W (G + 1) [x, y, v]
theorem TailZ.call {w3 W W' : World} {lo G m : Nat} {fr : List Value} {x y : Value} {b : Bool} (h : TailZ w3 lo G m fr x y b W) (hb : b = false) (k : Below W.heap.size W W') : TailZ w3 lo G m fr x y b W' := by
  subst hb
  exact ⟨h.front.below k, h.only.trans (Only.of_below k), ((h.still rfl).below k).cell 0 _ rfl, fun _ => (h.still rfl).below k, fun e => by cases e⟩
theorem TailZ.stored {w3 W : World} {lo G m : Nat} {fr : List Value} {x y v : Value} {b : Bool} (h : TailZ w3 lo G m fr x y b W) (hb : b = false) (hv : W.ownsRow lo 3 1 v m (ints (List.replicate m 0))) (hlo : G + 1 < lo) : TailZ w3 lo G m fr x y true (W.setCell ⟨G + 1, 2, none⟩ v) := by
  have ho : Only (G + 1) W (W.setCell ⟨G + 1, 2, none⟩ v) := Only.setCell (p := ⟨G + 1, 2, none⟩) (Only.refl (G + 1) W) rfl v
  have hc : Cells (W.setCell ⟨G + 1, 2, none⟩ v) (G + 1) [x, y, v] := (h.still hb).set 2 v
  exact ⟨cells_other h.front (by omega), h.only.trans ho, hc.cell 0 _ rfl, (fun e => by cases e), fun _ => ⟨v, owns_only2 hv ho hlo, hc⟩⟩
/-- make([]int, n): one operation of a drawn region. -/
theorem tail_make {P : Program} {ops : Array Oper} {Q : Exit → Act → World → Prop} {i : Nat} {o : Oper} {K : Act → World → Prop} {a : Act} {w w' : World} {t : TypeId} {x y : Operand} {v p q : Value} (ho : ops[i]? = some o)
    (hw : Region.wanted o (yielded ops a.tmps) = true) (hop : o.op = .makeSlice t x y) (hx : a.eval x = p) (hy : a.eval y = q) (hrun : (Instr.makeSlice t p q).run P w = .ok v w') (h : K (a.put o.dst v) w') : wpOp P ops Q i K a w :=
  wpOp_val ho hw (by simp only [execOp, hop, hx, hy]; simp [hrun, go_sem]) h
/-- A row of one's own that is not empty: its block. -/
theorem owned_block {w : World} {base n : Nat} {v : Value} {xs : List Value} (h : w.ownsRow base 3 1 v n xs) (h0 : 0 < n) : ∃ g cap, v = .slice (some ⟨g, 0, none⟩) n cap ∧ base ≤ g ∧ g < w.heap.size := by
  rcases h.2 with ⟨_, h'⟩ | ⟨g, cap, cur, h1, h2, h3, _⟩
  · omega
  · exact ⟨g, cap, h1, h2, (Array.getElem?_eq_some_iff.1 h3).1⟩
theorem Kept.only {c : Nat} {w w' : World} (h : Kept w.heap.size c w w') : Only c w w' := ⟨h.os, h.tape, h.output, h.size, h.block⟩
end Go.Proofs.YtbkdgpeooeokmaaDoor
