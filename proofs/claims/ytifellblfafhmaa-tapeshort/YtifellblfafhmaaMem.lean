/- Memory: one block that may turn; a writer's chain of pieces. -/
import Derived.Test.YtifellblfafhmaaBase
import Derived.Deep.LoopGhost
namespace Go.Proofs.Ytifellblfafhmaa
open Go.RowKit
set_option linter.unusedVariables false

/-- All blocks but c are as they were. -/
structure Only (c : Nat) (w w' : World) : Prop where
  os : w'.os = w.os
  tape : w'.tape = w.tape
  output : w'.output = w.output
  size : w.heap.size ≤ w'.heap.size
  block : ∀ k, k < w.heap.size → k ≠ c → w'.heap[k]? = w.heap[k]?

theorem Only.refl (c : Nat) (w : World) : Only c w w := ⟨rfl, rfl, rfl, Nat.le_refl _, fun _ _ _ => rfl⟩
theorem Only.trans {c : Nat} {a b d : World} (h : Only c a b) (k : Only c b d) : Only c a d :=
  ⟨k.os.trans h.os, k.tape.trans h.tape, k.output.trans h.output, Nat.le_trans h.size k.size, fun i hi hc => (k.block i (Nat.lt_of_lt_of_le hi h.size) hc).trans (h.block i hi hc)⟩
theorem Only.of_below {c : Nat} {w w' : World} (h : Below w.heap.size w w') : Only c w w' := ⟨h.os, h.tape, h.output, h.size, fun k hk _ => h.block k hk⟩
theorem Only.alloc {c : Nat} {a w : World} (h : Only c a w) (o : Obj) : Only c a (w.alloc o) := h.trans (Only.of_below ((Below.refl _ w).alloc (Nat.le_refl _) o))
theorem Only.setCell {c : Nat} {a w : World} (h : Only c a w) {p : Addr} (hp : p.block = c) (u : Value) : Only c a (w.setCell p u) :=
  h.trans ⟨rfl, rfl, rfl, by simp [World.setCell], fun k _ hc => Below.heap_setCell _ _ _ _ (by omega)⟩
theorem Only.setNew {c : Nat} {a w : World} (h : Only c a w) {p : Addr} (hp : a.heap.size ≤ p.block) (u : Value) : Only c a (w.setCell p u) :=
  ⟨h.os, h.tape, h.output, by have := h.size; simpa [World.setCell] using this, fun k hk hc => by rw [Below.heap_setCell _ _ _ _ (by omega)]; exact h.block k hk hc⟩
theorem Only.drew {c : Nat} {a w : World} (h : Only c a w) : Only c a w.drew := ⟨h.os, h.tape, h.output, h.size, h.block⟩
theorem Only.below {c B : Nat} {w w' : World} (h : Only c w w') (h1 : B ≤ c) (h2 : B ≤ w.heap.size) : Below B w w' := ⟨h.os, h.tape, h.output, h.size, fun k hk => h.block k (by omega) (by omega)⟩
theorem Only.fresh {w w' : World} {o : Obj} (h : Only w.heap.size (w.alloc o) w') : Below w.heap.size w w' :=
  ((Below.refl _ w).alloc (Nat.le_refl _) o).trans (h.below (Nat.le_refl _) (by simp))

/-- A block of cells of its own. -/
def Cells (w : World) (c : Nat) (l : List Value) : Prop := ∃ t, w.heap[c]? = some (.cells l.toArray t (0, 0))
theorem Cells.lt {w : World} {c : Nat} {l : List Value} (h : Cells w c l) : c < w.heap.size := by
  obtain ⟨t, h⟩ := h
  exact (Array.getElem?_eq_some_iff.1 h).1
theorem Cells.cell {w : World} {c : Nat} {l : List Value} (h : Cells w c l) (i : Nat) (x : Value) (hx : l[i]? = some x) : w.cell? ⟨c, i, none⟩ = some x := by
  obtain ⟨t, h⟩ := h
  unfold World.cell?
  rw [h]
  simpa using hx
theorem Cells.free {w : World} {c : Nat} {l : List Value} (h : Cells w c l) (i : Nat) : w.frozen? ⟨c, i, none⟩ = false := by
  obtain ⟨t, h⟩ := h
  unfold World.frozen?
  rw [h]
  simp
theorem Cells.set {w : World} {c : Nat} {l : List Value} (h : Cells w c l) (i : Nat) (x : Value) : Cells (w.setCell ⟨c, i, none⟩ x) c (l.set i x) := by
  obtain ⟨t, h⟩ := h
  exact ⟨t, by simp [World.setCell, Array.getElem?_modify, h]⟩
theorem Cells.only {w w' : World} {c g : Nat} {l : List Value} (h : Cells w g l) (hb : Only c w w') (hg : g ≠ c) : Cells w' g l := by
  have hl := h.lt
  obtain ⟨t, h⟩ := h
  exact ⟨t, by rw [hb.block g hl hg]; exact h⟩
theorem Cells.below {w w' : World} {g : Nat} {l : List Value} (h : Cells w g l) (hb : Below w.heap.size w w') : Cells w' g l := by
  have hl := h.lt
  obtain ⟨t, h⟩ := h
  exact ⟨t, by rw [hb.block g hl]; exact h⟩
theorem Cells.alloc {w : World} {g : Nat} {l : List Value} (h : Cells w g l) (o : Obj) : Cells (w.alloc o) g l := h.below ((Below.refl _ w).alloc (Nat.le_refl _) o)
theorem Cells.drew {w : World} {g : Nat} {l : List Value} (h : Cells w g l) : Cells w.drew g l := h
theorem cells_new (w : World) (l : List Value) (t : TypeId) : Cells (w.alloc (.cells l.toArray t)) w.heap.size l := ⟨t, by
  show (w.heap.push _)[w.heap.size]? = _
  simp⟩

/-- A writer's pieces, the last one first. -/
def Chain (c : Nat) (w : World) : Option Addr → List ByteArray → Prop
  | p, [] => p = none
  | p, s :: r => ∃ g q, p = some ⟨g, 0, none⟩ ∧ c < g ∧ 0 < s.size ∧ Cells w g [.pointer q, .string s] ∧ Chain c w q r
def catR : List ByteArray → List UInt8
  | [] => []
  | s :: r => catR r ++ B s
theorem Chain.only {c : Nat} {w w' : World} (hb : Only c w w') : ∀ (ps : List ByteArray) (p : Option Addr), Chain c w p ps → Chain c w' p ps
  | [], p, h => h
  | s :: r, p, ⟨g, q, hp, hg, hs, hc, hr⟩ => ⟨g, q, hp, hg, hs, hc.only hb (by omega), Chain.only hb r q hr⟩
theorem catR_cons (s : ByteArray) (r : List ByteArray) : catR (s :: r) = catR r ++ B s := rfl
/-- A writer lies in block c, and has written L. -/
def Wr (c : Nat) (w : World) (L : List UInt8) : Prop := ∃ q ps, Cells w c [.int .i64 (L.length : Int), .pointer q] ∧ Chain c w q ps ∧ catR ps = L
theorem Wr.below {c : Nat} {w w' : World} {L : List UInt8} (h : Wr c w L) (hb : Below w.heap.size w w') : Wr c w' L := by
  obtain ⟨q, ps, h1, h2, h3⟩ := h
  exact ⟨q, ps, h1.below hb, h2.only (Only.of_below hb), h3⟩
theorem Wr.lt {c : Nat} {w : World} {L : List UInt8} (h : Wr c w L) : c < w.heap.size := by
  obtain ⟨q, ps, h1, h2, h3⟩ := h
  exact h1.lt
theorem wr_new (w : World) (t : TypeId) : Wr w.heap.size (w.alloc (.cells #[.int .i64 0, .pointer none] t)) [] :=
  ⟨none, [], cells_new w [.int .i64 0, .pointer none] t, rfl, rfl⟩

/-- The bytes of two texts. -/
theorem B_append (a b : ByteArray) : B (a ++ b) = B a ++ B b := by
  unfold B
  simp
end Go.Proofs.Ytifellblfafhmaa
