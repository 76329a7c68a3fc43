/- Acts and switches that came in, opened. -/
import Derived.Test.YtclikkhaaiihdaaMoves
import Derived.WalkKit
import Derived.ProofKit
import Derived.OpenShut
import Derived.Deep.Slices
import Derived.Deep.Strs
namespace Go.Proofs.Ytclikkhaaiihdaa
open Go.ChangeShapes Go.WideShapes Go.ChangeAt Go.RowKit Go.Deep
set_option linter.unusedVariables false

/-- An act: its four cells. -/
structure ActD where
  k : Int
  n : Int
  far : Bool
  odd : Bool
  deriving Inhabited
def ActD.cells (s : ActD) : List Value := [.int .i64 s.k, .int .i64 s.n, .bool s.far, .bool s.odd]

section
variable {H : Type} {enc : TypeId × Value → H} {W : World}
theorem trod_struct4 {P : Program} {w : World} {base : Nat} {spare : Nat → Bool} {held : Bool} {t : TypeId} {f0 f1 f2 f3 : Field} {fuel : Nat} {cs : List Value} {x : DataW H × List MemPlace} (ht : P.underlying t = some (.struct #[f0, f1, f2, f3])) (h : DataW.trod enc P w base spare held fuel t cs = some x) :
    ∃ y0 y1 y2 y3 n, cs.length = P.cellsOf t ∧ DataW.trod enc P w base spare held n f0.type ((cs.drop f0.offset).take (P.cellsOf f0.type)) = some y0 ∧
      DataW.trod enc P w base spare held n f1.type ((cs.drop f1.offset).take (P.cellsOf f1.type)) = some y1 ∧ DataW.trod enc P w base spare held n f2.type ((cs.drop f2.offset).take (P.cellsOf f2.type)) = some y2 ∧
      DataW.trod enc P w base spare held n f3.type ((cs.drop f3.offset).take (P.cellsOf f3.type)) = some y3 := by
  obtain ⟨xs, n, _, rfl, hl, hlen, hf⟩ := DataW.trod_struct ht h
  match xs, hlen with
  | [y0, y1, y2, y3], _ => exact ⟨y0, y1, y2, y3, n, hl, by simpa using hf 0 f0 rfl, by simpa using hf 1 f1 rfl, by simpa using hf 2 f2 rfl, by simpa using hf 3 f3 rfl⟩
theorem act_open {fuel : Nat} {cs : List Value} {x : DataW H × List MemPlace} (h : DataW.trod enc Try.prog W 0 (fun _ => true) true fuel 33 cs = some x) :
    ∃ s : ActD, cs = s.cells := by
  obtain ⟨y0, y1, y2, y3, m, hlen, t0, t1, t2, t3⟩ := trod_struct4 Try.underlying33 h
  have hc : Try.prog.cellsOf 33 = 4 := by kernel_rfl
  have hc3 : Try.prog.cellsOf 3 = 1 := by kernel_rfl
  have hc4 : Try.prog.cellsOf 4 = 1 := by kernel_rfl
  rw [hc] at hlen
  match cs, hlen with
  | [v0, v1, v2, v3], _ =>
    simp [hc3, hc4] at t0 t1 t2 t3
    obtain ⟨k, e0, _, _⟩ := DataW.trod_int Try.underlying3 t0
    obtain ⟨i, e1, _, _⟩ := DataW.trod_int Try.underlying3 t1
    obtain ⟨far, e2, _⟩ := DataW.trod_bool Try.underlying4 t2
    obtain ⟨odd, e3, _⟩ := DataW.trod_bool Try.underlying4 t3
    simp at e0 e1 e2 e3
    subst e0 e1 e2 e3
    exact ⟨⟨k, i, far, odd⟩, rfl⟩
end

/-- One act lies at a place. -/
def ActAt (w : World) (b o : Nat) (q : ActD) : Prop :=
  w.cell? ⟨b, o, none⟩ = some (.int .i64 q.k) ∧ w.cell? ⟨b, o + 1, none⟩ = some (.int .i64 q.n) ∧ w.cell? ⟨b, o + 2, none⟩ = some (.bool q.far) ∧ w.cell? ⟨b, o + 3, none⟩ = some (.bool q.odd)
/-- A slice of acts lies in memory: its first ones. -/
def LiesA (w : World) (a : Option Addr) (is : List ActD) : Prop :=
  is = [] ∨ ∃ b off, a = some ⟨b, off, none⟩ ∧ b < w.heap.size ∧ ∀ j (h : j < is.length), ActAt w b (off + j * 4) is[j]
theorem LiesA.below {w w' : World} {a : Option Addr} {is : List ActD} (h : LiesA w a is) (hb : Below w.heap.size w w') : LiesA w' a is := by
  rcases h with h | ⟨b, off, rfl, hl, hc⟩
  · exact .inl h
  · refine .inr ⟨b, off, rfl, Nat.lt_of_lt_of_le hl hb.size, fun j hj => ?_⟩
    obtain ⟨c0, c1, c2, c3⟩ := hc j hj
    refine ⟨?_, ?_, ?_, ?_⟩
    · rw [hb.cell (p := ⟨b, _, none⟩) hl]; exact c0
    · rw [hb.cell (p := ⟨b, _, none⟩) hl]; exact c1
    · rw [hb.cell (p := ⟨b, _, none⟩) hl]; exact c2
    · rw [hb.cell (p := ⟨b, _, none⟩) hl]; exact c3

theorem acts_came {H : Type} {enc : TypeId × Value → H} {W : World} {b0 : Nat} {v : Value} {d : DataW H} {p : List MemPlace} (hv : Value.okWide Try.prog W .any b0 22 v) (h : DataW.Trod enc Try.prog W 0 (fun _ => true) true 22 v d p) :
    ∃ a len cap is, v = .slice a len cap ∧ len ≤ 9223372036854775807 ∧ is.length = min len 50 ∧ LiesA W a is := by
  obtain ⟨a, len, cap, rfl⟩ := okWide_slice Try.underlying22 hv
  obtain ⟨fuel, hf⟩ := h
  have hf' : DataW.trod enc Try.prog W 0 (fun _ => true) true fuel 22 [.slice a len cap] = some (d, p) := by simpa [Value.cells] using hf
  rcases open_slice Try.underlying22 hf' with ⟨hcs, _⟩ | ⟨x, len', cap', m, n, D, Pl, hcs, _, hl, hm, hmm, _, hx⟩
  · simp at hcs
    obtain ⟨rfl, rfl, rfl⟩ := hcs
    exact ⟨none, 0, 0, [], rfl, by omega, rfl, .inl rfl⟩
  · simp at hcs
    obtain ⟨rfl, rfl, rfl⟩ := hcs
    simp at hmm
    subst hmm
    unfold maxLen at hm
    have hc : Try.prog.cellsOf 33 = 4 := by kernel_rfl
    by_cases h0 : len = 0
    · exact ⟨_, len, m, [], rfl, by omega, by simp [h0], .inl rfl⟩
    obtain ⟨b, off, spot⟩ := x
    have hspot : spot = none := by
      obtain ⟨cs', h1, h2⟩ := hx 0 (by omega)
      obtain ⟨s, rfl⟩ := act_open h2
      rw [hc] at h1
      obtain ⟨_, _, hcell⟩ := World.cells?_some h1
      have e0 := hcell 0 (by omega)
      have e1 : W.cell? ⟨b, off, spot⟩ = some (.int .i64 s.k) := by simpa [Addr.add, ActD.cells] using e0
      simpa using World.cell?_spot e1
    subst hspot
    have each : ∀ i, i < m → ∃ q : ActD, b < W.heap.size ∧ ActAt W b (off + i * 4) q := by
      intro i hi
      obtain ⟨cs', h1, h2⟩ := hx i hi
      rw [hc] at h1
      obtain ⟨s, rfl⟩ := act_open h2
      obtain ⟨_, _, hcell⟩ := World.cells?_some h1
      have e0 := hcell 0 (by omega)
      have e1 := hcell 1 (by omega)
      have e2 := hcell 2 (by omega)
      have e3 := hcell 3 (by omega)
      rw [add_add, Addr.add_lit] at e0 e1 e2 e3
      refine ⟨s, ?_, by simpa [ActD.cells] using e0, by simpa [Nat.add_assoc, ActD.cells] using e1, by simpa [Nat.add_assoc, ActD.cells] using e2, by simpa [Nat.add_assoc, ActD.cells] using e3⟩
      exact lt_of_cell e0
    obtain ⟨q, hq⟩ := choose_lt each
    obtain ⟨hb, _⟩ := hq 0 (by omega)
    refine ⟨_, len, m, (List.range (min len 50)).map q, rfl, by omega, by simp, .inr ⟨b, off, rfl, hb, fun j hj => ?_⟩⟩
    simp at hj
    have := (hq j (by omega)).2
    simpa using this
/-- A slice of switches lies in memory: its first ones. -/
def LiesB (w : World) (a : Option Addr) (bs : List Bool) : Prop :=
  bs = [] ∨ ∃ b off, a = some ⟨b, off, none⟩ ∧ b < w.heap.size ∧ ∀ j (h : j < bs.length), w.cell? ⟨b, off + j, none⟩ = some (.bool bs[j])
theorem LiesB.below {w w' : World} {a : Option Addr} {bs : List Bool} (h : LiesB w a bs) (hb : Below w.heap.size w w') : LiesB w' a bs := by
  rcases h with h | ⟨b, off, rfl, hl, hc⟩
  · exact .inl h
  · exact .inr ⟨b, off, rfl, Nat.lt_of_lt_of_le hl hb.size, fun j hj => by rw [hb.cell (p := ⟨b, _, none⟩) hl]; exact hc j hj⟩
theorem bools_came {H : Type} {enc : TypeId × Value → H} {W : World} {b0 : Nat} {v : Value} {d : DataW H} {p : List MemPlace} (hv : Value.okWide Try.prog W .any b0 55 v) (h : DataW.Trod enc Try.prog W 0 (fun _ => true) true 55 v d p) :
    ∃ a len cap bs, v = .slice a len cap ∧ len ≤ 9223372036854775807 ∧ bs.length = min len 40 ∧ LiesB W a bs := by
  obtain ⟨a, len, cap, rfl⟩ := okWide_slice Try.underlying55 hv
  obtain ⟨fuel, hf⟩ := h
  have hf' : DataW.trod enc Try.prog W 0 (fun _ => true) true fuel 55 [.slice a len cap] = some (d, p) := by simpa [Value.cells] using hf
  rcases open_slice Try.underlying55 hf' with ⟨hcs, _⟩ | ⟨x, len', cap', m, n, D, Pl, hcs, _, hl, hm, hmm, _, hx⟩
  · simp at hcs
    obtain ⟨rfl, rfl, rfl⟩ := hcs
    exact ⟨none, 0, 0, [], rfl, by omega, rfl, .inl rfl⟩
  · simp at hcs
    obtain ⟨rfl, rfl, rfl⟩ := hcs
    simp at hmm
    subst hmm
    unfold maxLen at hm
    have hc : Try.prog.cellsOf 4 = 1 := by kernel_rfl
    by_cases h0 : len = 0
    · exact ⟨_, len, m, [], rfl, by omega, by simp [h0], .inl rfl⟩
    obtain ⟨b, off, spot⟩ := x
    have opened : ∀ i, i < m → ∃ q : Bool, W.cell? ((⟨b, off, spot⟩ : Addr).add i) = some (.bool q) := by
      intro i hi
      obtain ⟨cs', h1, h2⟩ := hx i hi
      rw [hc] at h1
      obtain ⟨q, e, _⟩ := DataW.trod_bool Try.underlying4 h2
      subst e
      obtain ⟨_, _, hcell⟩ := World.cells?_some h1
      have e0 := hcell 0 (by omega)
      rw [add_add] at e0
      exact ⟨q, by simpa using e0⟩
    have hspot : spot = none := by
      obtain ⟨q, e⟩ := opened 0 (by omega)
      have e1 : W.cell? ⟨b, off, spot⟩ = some (.bool q) := by simpa [Addr.add] using e
      simpa using World.cell?_spot e1
    subst hspot
    have each : ∀ i, i < m → ∃ q : Bool, b < W.heap.size ∧ W.cell? ⟨b, off + i, none⟩ = some (.bool q) := by
      intro i hi
      obtain ⟨q, e⟩ := opened i hi
      rw [Addr.add_lit] at e
      exact ⟨q, lt_of_cell e, e⟩
    obtain ⟨q, hq⟩ := choose_lt each
    obtain ⟨hb, _⟩ := hq 0 (by omega)
    refine ⟨_, len, m, (List.range (min len 40)).map q, rfl, by omega, by simp, .inr ⟨b, off, rfl, hb, fun j hj => ?_⟩⟩
    simp at hj
    have := (hq j (by omega)).2
    simpa using this
end Go.Proofs.Ytclikkhaaiihdaa
