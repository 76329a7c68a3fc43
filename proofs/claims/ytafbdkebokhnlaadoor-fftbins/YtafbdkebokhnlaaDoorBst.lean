/- The document's bins under way: two rows that grow. -/
import Derived.Test.YtafbdkebokhnlaaDoorRfft
import Derived.Test.YtafbdkebokhnlaaDoorBins
import Derived.Deep.RegionLaw
namespace Go.Proofs.YtafbdkebokhnlaaDoor
open Go.RowKit
set_option linter.unusedVariables false

theorem setOnly {c : Nat} {w : World} (i : Nat) (u : Value) : Only c w (w.setCell ⟨c, i, none⟩ u) := (Only.refl c w).setCell rfl u
theorem owns_only {w w' : World} {base n c : Nat} {v : Value} {xs : List Value} (h : w.ownsRow base 3 1 v n xs) (hb : Only c w w') (hc : c < base) : w'.ownsRow base 3 1 v n xs := by
  refine ⟨h.1, ?_⟩
  rcases h.2 with h' | ⟨g, cap, cur, h1, h2, h3, h4⟩
  · exact .inl h'
  · exact .inr ⟨g, cap, cur, h1, h2, by rw [hb.block g (by have := Array.getElem?_eq_some_iff.1 h3; exact this.1) (by omega)]; exact h3, h4⟩
theorem owns_below {w w' : World} {base n : Nat} {v : Value} {xs : List Value} (h : w.ownsRow base 3 1 v n xs) (hb : Below w.heap.size w w') : w'.ownsRow base 3 1 v n xs := by
  refine ⟨h.1, ?_⟩
  rcases h.2 with h' | ⟨g, cap, cur, h1, h2, h3, h4⟩
  · exact .inl h'
  · exact .inr ⟨g, cap, cur, h1, h2, by rw [hb.block g (by have := Array.getElem?_eq_some_iff.1 h3; exact this.1)]; exact h3, h4⟩
theorem cells_grown {w w' : World} {c : Nat} {l : List Value} {row : Option Nat} (h : Cells w c l) (hg : w.grownBy w' row) (hr : ∀ k, row = some k → k ≠ c) : Cells w' c l := by
  have hl := h.lt
  obtain ⟨t, h⟩ := h
  exact ⟨t, by rw [hg.block c hl (fun e => hr c e.symm rfl)]; exact h⟩

/-- A call of a Go function, as a step of a region that draws: by its contract. -/
theorem step_call {P : Program} {ops : Array Oper} {o : Oper} {a : Act} {w : World} {K : Act → World → Prop} {Q : Exit → Act → World → Prop} {E : Prop} (f : FuncId) (args : Array Value)
    (hg : o.guard = none) (hx : (execOp a.eval o).run P w = .ok (.enter f args) w) (h : Calls P f args w fun e w'' => ∃ v, e = .returned v ∧ K (a.put o.dst v) w'') :
    if Region.wanted o (yielded ops a.tmps) = true then Oper.wp P o a w K Q else E := by
  rw [if_pos (by simp [Region.wanted, hg])]
  unfold Oper.wp
  rw [hx]
  show Calls P f args w _
  refine Calls.mono h ?_
  rintro e w'' ⟨v, rfl, hk⟩
  exact hk

/-- The first k parts. -/
def partsTo (c : Nat → Int) (h : Nat) (xs : List Int) (k : Nat) : List Int := mkL k fun j => partI c (spinS h (j : Int) xs)
theorem parts_succ (c : Nat → Int) (h : Nat) (xs : List Int) (k : Nat) (z : Int) (hz : partI c (spinS h (k : Int) xs) = z) : ints (partsTo c h xs (k + 1)) = ints (partsTo c h xs k) ++ [.int .i64 z] := by
  rw [← hz]; simp [ints, partsTo, mkL, List.range_succ]
def Z3 : List Value := [.slice none 0 0, .slice none 0 0, .int .i64 0]

/-- The document's bins under way: two rows of its own, told by a struct of three cells behind the result's. -/
structure Bst (w : World) (D : Nat) (wr : World) (p1 p2 : Option Addr) (c1 c2 k1 k2 : Nat) (L1 L2 : List Int) : Prop where
  o1 : wr.ownsRow (D + 2) 3 1 (.slice p1 k1 c1) k1 (ints L1)
  o2 : wr.ownsRow (D + 2) 3 1 (.slice p2 k2 c2) k2 (ints L2)
  ap : ∀ q, (Value.slice p1 k1 c1).ownBlock = some q → (Value.slice p2 k2 c2).ownBlock ≠ some q
  hp : Cells wr (D + 1) [.slice p1 k1 c1, .slice p2 k2 c2, .int .i64 0]
  hr : Cells wr D Z3
  hb : Below w.heap.size w wr
  hd : w.heap.size = D
theorem Bst.below {w wr w' : World} {D : Nat} {p1 p2 : Option Addr} {c1 c2 k1 k2 : Nat} {L1 L2 : List Int} (h : Bst w D wr p1 p2 c1 c2 k1 k2 L1 L2) (hb : Below wr.heap.size wr w') : Bst w D w' p1 p2 c1 c2 k1 k2 L1 L2 :=
  ⟨owns_below h.o1 hb, owns_below h.o2 hb, h.ap, h.hp.below hb, h.hr.below hb, h.hb.trans (hb.mono h.hb.size), h.hd⟩
theorem kept_if {w w' : World} {base n : Nat} {v : Value} {xs : List Value} {row : Option Nat} (h : w.ownsRow base 3 1 v n xs) (hg : w.grownBy w' row) (ha : ∀ q, row = some q → v.ownBlock ≠ some q) : w'.ownsRow base 3 1 v n xs := by
  refine h.kept hg ?_
  cases hv : v.ownBlock with
  | none => exact .inl rfl
  | some k => exact .inr fun e => ha k e.symm hv
theorem lies_grown {w w' : World} {row : Option Nat} {a : Option Addr} {xs : List Int} (hl : Lies w a xs) (hg : w.grownBy w' row) (ha : ∀ p, a = some p → row ≠ some p.block) : Lies w' a xs := by
  rcases hl with h | ⟨b, off, rfl, hlt, hc⟩
  · exact .inl h
  · refine .inr ⟨b, off, rfl, Nat.lt_of_lt_of_le hlt hg.size, fun j hj => ?_⟩
    rw [World.cell?_of_block (hg.block b hlt (fun e => ha _ rfl e.symm))]
    exact hc j hj
theorem Bst.push1 {w w5 w6 : World} {D : Nat} {p1 p2 : Option Addr} {c1 c2 k1 k2 g cp : Nat} {L1 L2 : List Int} {z : Int} {o : Obj} (h : Bst w D w5 p1 p2 c1 c2 k1 k2 L1 L2)
    (hg : (w5.alloc o).grownBy w6 (Value.slice p1 k1 c1).ownBlock) (hat : (Value.slice p1 k1 c1).ownBlock = some g ∨ g = w5.heap.size + 1) (hown : w6.ownsRow (D + 2) 3 1 (.slice (some ⟨g, 0, none⟩) (k1 + 1) cp) (k1 + 1) (ints L1 ++ [.int .i64 z])) :
    Bst w D (w6.setCell ⟨D + 1, 0, none⟩ (.slice (some ⟨g, 0, none⟩) (k1 + 1) cp)) (some ⟨g, 0, none⟩) p2 cp c2 (k1 + 1) k2 (L1 ++ [z]) L2 := by
  have hgr : ∀ q, (Value.slice p1 k1 c1).ownBlock = some q → D + 2 ≤ q := fun q hq => (h.o1.lt q hq).1
  have hp6 := cells_grown (h.hp.alloc o) hg (fun q hq => by have := hgr q hq; omega)
  have hr6 := cells_grown (h.hr.alloc o) hg (fun q hq => by have := hgr q hq; omega)
  have hb6 := (h.hb.alloc h.hb.size o).grown hg (by have := h.hb.size; simp; omega) (fun q hq => by have := hgr q hq; have := h.hd; omega)
  have ho1 : w6.ownsRow (D + 2) 3 1 (.slice (some ⟨g, 0, none⟩) (k1 + 1) cp) (k1 + 1) (ints (L1 ++ [z])) := by
    have : ints (L1 ++ [z]) = ints L1 ++ [.int .i64 z] := by simp [ints]
    rw [this]; exact hown
  have ho2 := kept_if (h.o2.alloc o) hg (fun q hq => h.ap q hq)
  have hap : ∀ q, (Value.slice (some ⟨g, 0, none⟩) (k1 + 1) cp).ownBlock = some q → (Value.slice p2 k2 c2).ownBlock ≠ some q := by
    intro q hq e
    have hqg : g = q := by simpa [Value.ownBlock] using hq
    subst hqg
    rcases hat with hat | hat
    · exact h.ap _ hat e
    · have := (h.o2.lt _ e).2; omega
  exact ⟨owns_only ho1 (setOnly 0 _) (by omega), owns_only ho2 (setOnly 0 _) (by omega), hap, hp6.set 0 _, hr6.only (setOnly 0 _) (by omega), hb6.setCell (by show w.heap.size ≤ D + 1; have := h.hd; omega) _, h.hd⟩
theorem Bst.lies1 {w w5 w6 : World} {D : Nat} {p1 p2 : Option Addr} {c1 c2 k1 k2 : Nat} {L1 L2 : List Int} {o : Obj} {u : Value} (h : Bst w D w5 p1 p2 c1 c2 k1 k2 L1 L2)
    (hg : (w5.alloc o).grownBy w6 (Value.slice p1 k1 c1).ownBlock) {a : Option Addr} {xs : List Int} (hl : Lies w5 a xs) (ha : ∀ p, a = some p → D + 2 ≤ p.block ∧ (Value.slice p1 k1 c1).ownBlock ≠ some p.block) :
    Lies (w6.setCell ⟨D + 1, 0, none⟩ u) a xs :=
  (lies_grown (hl.below (alloc_below w5 o)) hg (fun p hp => (ha p hp).2)).only (setOnly 0 u) (fun _ p hp => by have := (ha p hp).1; omega)
theorem Bst.push2 {w w5 w6 : World} {D : Nat} {p1 p2 : Option Addr} {c1 c2 k1 k2 g cp : Nat} {L1 L2 : List Int} {z : Int} {o : Obj} (h : Bst w D w5 p1 p2 c1 c2 k1 k2 L1 L2)
    (hg : (w5.alloc o).grownBy w6 (Value.slice p2 k2 c2).ownBlock) (hat : (Value.slice p2 k2 c2).ownBlock = some g ∨ g = w5.heap.size + 1) (hown : w6.ownsRow (D + 2) 3 1 (.slice (some ⟨g, 0, none⟩) (k2 + 1) cp) (k2 + 1) (ints L2 ++ [.int .i64 z])) :
    Bst w D (w6.setCell ⟨D + 1, 1, none⟩ (.slice (some ⟨g, 0, none⟩) (k2 + 1) cp)) p1 (some ⟨g, 0, none⟩) c1 cp k1 (k2 + 1) L1 (L2 ++ [z]) := by
  have hgr : ∀ q, (Value.slice p2 k2 c2).ownBlock = some q → D + 2 ≤ q := fun q hq => (h.o2.lt q hq).1
  have hp6 := cells_grown (h.hp.alloc o) hg (fun q hq => by have := hgr q hq; omega)
  have hr6 := cells_grown (h.hr.alloc o) hg (fun q hq => by have := hgr q hq; omega)
  have hb6 := (h.hb.alloc h.hb.size o).grown hg (by have := h.hb.size; simp; omega) (fun q hq => by have := hgr q hq; have := h.hd; omega)
  have ho2 : w6.ownsRow (D + 2) 3 1 (.slice (some ⟨g, 0, none⟩) (k2 + 1) cp) (k2 + 1) (ints (L2 ++ [z])) := by
    have : ints (L2 ++ [z]) = ints L2 ++ [.int .i64 z] := by simp [ints]
    rw [this]; exact hown
  have ho1 := kept_if (h.o1.alloc o) hg (fun q hq => fun e => h.ap q e hq)
  have hap : ∀ q, (Value.slice (some ⟨g, 0, none⟩) (k2 + 1) cp).ownBlock = some q → (Value.slice p1 k1 c1).ownBlock ≠ some q := by
    intro q hq e
    have hqg : g = q := by simpa [Value.ownBlock] using hq
    subst hqg
    rcases hat with hat | hat
    · exact h.ap _ e hat
    · have := (h.o1.lt _ e).2; omega
  exact ⟨owns_only ho1 (setOnly 1 _) (by omega), owns_only ho2 (setOnly 1 _) (by omega), fun q hq e => hap q e hq, hp6.set 1 _, hr6.only (setOnly 1 _) (by omega), hb6.setCell (by show w.heap.size ≤ D + 1; have := h.hd; omega) _, h.hd⟩
theorem Bst.lies2 {w w5 w6 : World} {D : Nat} {p1 p2 : Option Addr} {c1 c2 k1 k2 : Nat} {L1 L2 : List Int} {o : Obj} {u : Value} (h : Bst w D w5 p1 p2 c1 c2 k1 k2 L1 L2)
    (hg : (w5.alloc o).grownBy w6 (Value.slice p2 k2 c2).ownBlock) {a : Option Addr} {xs : List Int} (hl : Lies w5 a xs) (ha : ∀ p, a = some p → D + 2 ≤ p.block ∧ (Value.slice p2 k2 c2).ownBlock ≠ some p.block) :
    Lies (w6.setCell ⟨D + 1, 1, none⟩ u) a xs :=
  (lies_grown (hl.below (alloc_below w5 o)) hg (fun p hp => (ha p hp).2)).only (setOnly 1 u) (fun _ p hp => by have := (ha p hp).1; omega)

theorem Bst.keep {w wa wb : World} {D : Nat} {p1 p2 : Option Addr} {c1 c2 k1 k2 : Nat} {L1 L2 : List Int} {row : Option Nat} (h : Bst w D wa p1 p2 c1 c2 k1 k2 L1 L2) (hg : wa.grownBy wb row)
    (hr : ∀ q, row = some q → D + 2 ≤ q ∧ (Value.slice p1 k1 c1).ownBlock ≠ some q ∧ (Value.slice p2 k2 c2).ownBlock ≠ some q) : Bst w D wb p1 p2 c1 c2 k1 k2 L1 L2 :=
  ⟨kept_if h.o1 hg (fun q hq => (hr q hq).2.1), kept_if h.o2 hg (fun q hq => (hr q hq).2.2), h.ap, cells_grown h.hp hg (fun q hq => by have := (hr q hq).1; omega), cells_grown h.hr hg (fun q hq => by have := (hr q hq).1; omega),
    h.hb.grown hg h.hb.size (fun q hq => by have := (hr q hq).1; have := h.hd; omega), h.hd⟩

/-- The two rows, moved down as far as number j. -/
def dnTo (s : Int) (L : List Int) (j : Nat) : List Int := mkL L.length fun i => if i < j then halfI (L.getD i 0) s else L.getD i 0
theorem dnTo_len (s : Int) (L : List Int) (j : Nat) : (dnTo s L j).length = L.length := mkL_len _ _
theorem dnTo_zero (s : Int) (L : List Int) : dnTo s L 0 = L := mkL_eq _ _ _ rfl fun i _ => by rw [if_neg (by omega)]
theorem dnTo_at (s : Int) (L : List Int) (j : Nat) (h : j < L.length) : (dnTo s L j).getD j 0 = L.getD j 0 := by
  unfold dnTo; rw [mkL_at _ _ _ h, if_neg (by omega)]
theorem dnTo_set (s : Int) (L : List Int) (j : Nat) (h : j < L.length) : (dnTo s L j).set j (halfI (L.getD j 0) s) = dnTo s L (j + 1) := by
  refine list_same (by rw [List.length_set, dnTo_len, dnTo_len]) fun i hi => ?_
  rw [List.length_set, dnTo_len] at hi
  rw [getD_set, dnTo_len]
  by_cases c : j = i
  · subst c; rw [if_pos ⟨rfl, h⟩]; unfold dnTo; rw [mkL_at _ _ _ h, if_pos (by omega)]
  · rw [if_neg (fun h => c h.1)]; unfold dnTo; rw [mkL_at _ _ _ hi, mkL_at _ _ _ hi]
    by_cases d : i < j
    · rw [if_pos d, if_pos (by omega)]
    · rw [if_neg d, if_neg (by omega)]
theorem dnTo_all (s : Int) (L : List Int) (n : Nat) (h : L.length = n) : dnTo s L n = downL s L := by
  refine mkL_eq _ _ _ (by rw [down_len]) fun i hi => ?_
  rw [if_pos (by omega), down_at s L i hi]
structure Bs2 (w : World) (D : Nat) (wr : World) (g1 g2 c1 c2 k : Nat) (s : Int) (M1 M2 : List Int) : Prop where
  o1 : wr.ownsRow (D + 2) 3 1 (.slice (some ⟨g1, 0, none⟩) k c1) k (ints M1)
  o2 : wr.ownsRow (D + 2) 3 1 (.slice (some ⟨g2, 0, none⟩) k c2) k (ints M2)
  ap : g1 ≠ g2
  hp : Cells wr (D + 1) [.slice (some ⟨g1, 0, none⟩) k c1, .slice (some ⟨g2, 0, none⟩) k c2, .int .i64 s]
  hr : Cells wr D Z3
  hb : Below w.heap.size w wr
  hd : w.heap.size = D
theorem Bst.two {w wr : World} {D g1 g2 c1 c2 k : Nat} {L1 L2 : List Int} (h : Bst w D wr (some ⟨g1, 0, none⟩) (some ⟨g2, 0, none⟩) c1 c2 k k L1 L2) : Bs2 w D wr g1 g2 c1 c2 k 0 L1 L2 :=
  ⟨h.o1, h.o2, fun e => h.ap g1 rfl (by rw [e]; rfl), h.hp, h.hr, h.hb, h.hd⟩
theorem Bs2.shift {w wr : World} {D g1 g2 c1 c2 k : Nat} {s : Int} {L1 L2 : List Int} (h : Bs2 w D wr g1 g2 c1 c2 k s L1 L2) (t : Int) : Bs2 w D (wr.setCell ⟨D + 1, 2, none⟩ (.int .i64 t)) g1 g2 c1 c2 k t L1 L2 :=
  ⟨owns_only h.o1 (setOnly 2 _) (by omega), owns_only h.o2 (setOnly 2 _) (by omega), h.ap, h.hp.set 2 _, h.hr.only (setOnly 2 _) (by omega), h.hb.setCell (by show w.heap.size ≤ D + 1; have := h.hd; omega) _, h.hd⟩
theorem Bs2.set1 {w wr : World} {D g1 g2 c1 c2 k : Nat} {s : Int} {L1 L2 : List Int} (h : Bs2 w D wr g1 g2 c1 c2 k s L1 L2) (j : Nat) (y : Int) : Bs2 w D (wr.setCell ⟨g1, j, none⟩ (.int .i64 y)) g1 g2 c1 c2 k s (L1.set j y) L2 := by
  have hg := (h.o1.lt g1 rfl).1
  have := (h.o1.stored j (.int .i64 y)).1
  rw [ints_set] at this
  exact ⟨this, ownsRow_setCell_other h.o2 (by intro e; exact h.ap (Option.some.inj e).symm) _, h.ap, h.hp.only (setOnly j _) (by omega), h.hr.only (setOnly j _) (by omega), h.hb.setCell (by show w.heap.size ≤ g1; have := h.hd; omega) _, h.hd⟩
theorem Bs2.set2 {w wr : World} {D g1 g2 c1 c2 k : Nat} {s : Int} {L1 L2 : List Int} (h : Bs2 w D wr g1 g2 c1 c2 k s L1 L2) (j : Nat) (y : Int) : Bs2 w D (wr.setCell ⟨g2, j, none⟩ (.int .i64 y)) g1 g2 c1 c2 k s L1 (L2.set j y) := by
  have hg := (h.o2.lt g2 rfl).1
  have := (h.o2.stored j (.int .i64 y)).1
  rw [ints_set] at this
  exact ⟨ownsRow_setCell_other h.o1 (by intro e; exact h.ap (Option.some.inj e)) _, this, h.ap, h.hp.only (setOnly j _) (by omega), h.hr.only (setOnly j _) (by omega), h.hb.setCell (by show w.heap.size ≤ g2; have := h.hd; omega) _, h.hd⟩
theorem Bs2.drew {w wr : World} {D g1 g2 c1 c2 k : Nat} {s : Int} {L1 L2 : List Int} (h : Bs2 w D wr g1 g2 c1 c2 k s L1 L2) : Bs2 w D wr.drew g1 g2 c1 c2 k s L1 L2 :=
  ⟨h.o1.drew, h.o2.drew, h.ap, h.hp, h.hr, h.hb.drew, h.hd⟩
theorem parts_all (c : Nat → Int) (h : Nat) (xs : List Int) (k : Nat) (hk : k = h + 1) : partsTo c h xs k = partsL c h xs := by subst hk; rfl
end Go.Proofs.YtafbdkebokhnlaaDoor
