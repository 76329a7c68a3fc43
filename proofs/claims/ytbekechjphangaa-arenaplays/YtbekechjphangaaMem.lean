/- Memory: an arena (its struct's block, its words' block), a part of it. -/
import Derived.Test.YtbekechjphangaaBase
import Derived.Deep.LoopGhost
namespace Go.Proofs.Ytbekechjphangaa
open Go.RowKit
set_option linter.unusedVariables false

/-- All blocks but c and g are as they were. -/
structure Two (c g : Nat) (w w' : World) : Prop where
  os : w'.os = w.os
  tape : w'.tape = w.tape
  output : w'.output = w.output
  size : w.heap.size ≤ w'.heap.size
  block : ∀ k, k < w.heap.size → k ≠ c → k ≠ g → w'.heap[k]? = w.heap[k]?

theorem Two.refl (c g : Nat) (w : World) : Two c g w w := ⟨rfl, rfl, rfl, Nat.le_refl _, fun _ _ _ _ => rfl⟩
theorem Two.trans {c g : Nat} {a b d : World} (h : Two c g a b) (k : Two c g b d) : Two c g a d :=
  ⟨k.os.trans h.os, k.tape.trans h.tape, k.output.trans h.output, Nat.le_trans h.size k.size, fun i hi hc hg => (k.block i (Nat.lt_of_lt_of_le hi h.size) hc hg).trans (h.block i hi hc hg)⟩
theorem Two.of_below {c g : Nat} {w w' : World} (h : Below w.heap.size w w') : Two c g w w' := ⟨h.os, h.tape, h.output, h.size, fun k hk _ _ => h.block k hk⟩
theorem Two.of_left {c g : Nat} {w w' : World} (h : Only c w w') : Two c g w w' := ⟨h.os, h.tape, h.output, h.size, fun k hk hc _ => h.block k hk hc⟩
theorem Two.of_right {c g : Nat} {w w' : World} (h : Only g w w') : Two c g w w' := ⟨h.os, h.tape, h.output, h.size, fun k hk _ hg => h.block k hk hg⟩
theorem Two.below {c g B : Nat} {w w' : World} (h : Two c g w w') (h1 : B ≤ c) (h2 : B ≤ g) (h3 : B ≤ w.heap.size) : Below B w w' := ⟨h.os, h.tape, h.output, h.size, fun k hk => h.block k (by omega) (by omega) (by omega)⟩
theorem Only.setHere {c : Nat} {w : World} (i : Nat) (u : Value) : Only c w (w.setCell ⟨c, i, none⟩ u) := (Only.refl c w).setCell rfl u
theorem Cells.two {w w' : World} {c g k : Nat} {l : List Value} (h : Cells w k l) (hb : Two c g w w') (hc : k ≠ c) (hg : k ≠ g) : Cells w' k l := by
  have hl := h.lt
  obtain ⟨t, h⟩ := h
  exact ⟨t, by rw [hb.block k hl hc hg]; exact h⟩
theorem own_cells {w : World} {base n g : Nat} {xs : List Value} (h : w.ownsRow base 3 1 (.slice (some ⟨g, 0, none⟩) n n) n xs) : Cells w g xs := by
  rcases h.2 with ⟨h', _⟩ | ⟨g', cap, cur, h1, h2, h3, h4, h5, h6, h7⟩
  · cases h'
  · cases h1
    refine ⟨3, ?_⟩
    rw [h3, ← h7, List.take_of_length_le (by simp [h6])]
theorem Cells.inj {w : World} {c : Nat} {l m : List Value} (h : Cells w c l) (k : Cells w c m) : l = m := by
  obtain ⟨t, h⟩ := h
  obtain ⟨t', k⟩ := k
  rw [h] at k
  have := k
  simp at this
  exact this.1

/-- Numbers as cells. -/
def ints (L : List Int) : List Value := L.map (Value.int .i64)
theorem ints_len (L : List Int) : (ints L).length = L.length := by simp [ints]
theorem ints_at (L : List Int) (i : Nat) (h : i < L.length) : (ints L)[i]? = some (.int .i64 (L.getD i 0)) := by
  simp [ints, List.getD_eq_getElem?_getD, List.getElem?_eq_getElem h]
theorem ints_set (L : List Int) (i : Nat) (x : Int) : (ints L).set i (.int .i64 x) = ints (L.set i x) := by simp [ints, List.map_set]
theorem ints_zero (n : Nat) : (madeCells #[.int .i64 0] n).toList = ints (List.replicate n 0) := by
  rw [toList_madeCells_one]
  simp [ints]
theorem ints_one' (L : List Int) : ∀ u ∈ ints L, u.oneCell' = true := ints_one L
theorem Cells.lies {w : World} {g : Nat} {L : List Int} (h : Cells w g (ints L)) : Lies w (some ⟨g, 0, none⟩) L := by
  refine .inr ⟨g, 0, rfl, h.lt, fun j hj => ?_⟩
  rw [Nat.zero_add]
  exact h.cell j _ (ints_at L j hj)

/-- An arena of n words L, its trouble e: the struct in block c, the words in block g. -/
structure Ar (c g n : Nat) (w : World) (L : List Int) (e : Int) : Prop where
  len : L.length = n
  me : Cells w c [.slice (some ⟨g, 0, none⟩) n n, .int .i64 e]
  row : Cells w g (ints L)
  ne : c ≠ g
theorem Ar.two {c g n p q : Nat} {w w' : World} {L : List Int} {e : Int} (h : Ar c g n w L e) (hb : Two p q w w') (h1 : c ≠ p) (h2 : c ≠ q) (h3 : g ≠ p) (h4 : g ≠ q) : Ar c g n w' L e :=
  ⟨h.len, h.me.two hb h1 h2, h.row.two hb h3 h4, h.ne⟩
theorem Ar.below {c g n : Nat} {w w' : World} {L : List Int} {e : Int} (h : Ar c g n w L e) (hb : Below w.heap.size w w') : Ar c g n w' L e :=
  ⟨h.len, h.me.below hb, h.row.below hb, h.ne⟩
theorem Ar.under {c g n B : Nat} {w w' : World} {L : List Int} {e : Int} (h : Ar c g n w L e) (hb : Below B w w') (hc : c < B) (hg : g < B) : Ar c g n w' L e := by
  obtain ⟨h1, ⟨t, h2⟩, ⟨t', h3⟩, h4⟩ := h
  exact ⟨h1, ⟨t, by rw [hb.block c hc]; exact h2⟩, ⟨t', by rw [hb.block g hg]; exact h3⟩, h4⟩
theorem Ar.slice {c g n : Nat} {w : World} {L : List Int} {e : Int} (h : Ar c g n w L e) : w.cell? ⟨c, 0, none⟩ = some (.slice (some ⟨g, 0, none⟩) n n) := h.me.cell 0 _ rfl
theorem Ar.err {c g n : Nat} {w : World} {L : List Int} {e : Int} (h : Ar c g n w L e) : w.cell? ⟨c, 1, none⟩ = some (.int .i64 e) := h.me.cell 1 _ rfl
theorem Ar.word {c g n : Nat} {w : World} {L : List Int} {e : Int} (h : Ar c g n w L e) (i : Nat) (hi : i < n) : w.cell? ⟨g, i, none⟩ = some (.int .i64 (L.getD i 0)) := h.row.cell i _ (ints_at L i (by rw [h.len]; exact hi))
theorem Ar.setErr {c g n : Nat} {w : World} {L : List Int} {e : Int} (h : Ar c g n w L e) (e' : Int) : Ar c g n (w.setCell ⟨c, 1, none⟩ (.int .i64 e')) L e' := by
  refine ⟨h.len, h.me.set 1 _, h.row.only (Only.setHere 1 _) (fun h' => h.ne h'.symm), h.ne⟩
theorem Ar.setWord {c g n : Nat} {w : World} {L : List Int} {e : Int} (h : Ar c g n w L e) (i : Nat) (x : Int) : Ar c g n (w.setCell ⟨g, i, none⟩ (.int .i64 x)) (L.set i x) e := by
  refine ⟨by rw [List.length_set]; exact h.len, h.me.only (Only.setHere i _) h.ne, ?_, h.ne⟩
  rw [← ints_set]
  exact h.row.set i _
theorem Ar.setRow {c g n : Nat} {w w' : World} {L L' : List Int} {e : Int} (h : Ar c g n w L e) (ho : Only g w w') (hr : Cells w' g (ints L')) (hl : L'.length = n) : Ar c g n w' L' e :=
  ⟨hl, h.me.only ho h.ne, hr, h.ne⟩

/-- A part of the arena (c, g): m words from place o on. -/
def Pt (b c g o m : Nat) (w : World) : Prop := Cells w b [.pointer (some ⟨c, 0, none⟩), .slice (some ⟨g, o, none⟩) m m]

/-- The first trouble stays. -/
def fst (e k : Int) : Int := if e = 0 then k else e
def okW (x : Int) : Prop := -2147483648 ≤ x ∧ x ≤ 2147483647
instance (x : Int) : Decidable (okW x) := inferInstanceAs (Decidable (_ ∧ _))
def inR (m : Nat) (i : Int) : Prop := 0 ≤ i ∧ i < (m : Int)
instance (m : Nat) (i : Int) : Decidable (inR m i) := inferInstanceAs (Decidable (_ ∧ _))
def getI (L : List Int) (o m : Nat) (i : Int) : Int := if inR m i then L.getD (o + i.toNat) 0 else 0
def getE (m : Nat) (i e : Int) : Int := if inR m i then e else fst e 1
def putL (L : List Int) (o m : Nat) (i x : Int) : List Int := if inR m i ∧ okW x then L.set (o + i.toNat) x else L
def putE (m : Nat) (i x e : Int) : Int := if inR m i then (if okW x then e else fst e 16) else fst e 1
theorem putL_len (L : List Int) (o m : Nat) (i x : Int) : (putL L o m i x).length = L.length := by unfold putL; split <;> simp
end Go.Proofs.Ytbekechjphangaa
