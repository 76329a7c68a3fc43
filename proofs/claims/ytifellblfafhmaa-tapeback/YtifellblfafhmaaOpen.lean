/- Items that came in, opened. -/
import Derived.Test.YtifellblfafhmaaItem
import Derived.WalkKit
import Derived.ProofKit
import Derived.OpenShut
import Derived.Deep.Slices
import Derived.Deep.Strs
namespace Go.Proofs.Ytifellblfafhmaa
open Go.ChangeShapes Go.WideShapes Go.ChangeAt Go.RowKit Go.Deep
set_option linter.unusedVariables false

theorem it_of_row {w : World} {k n : Int} {a : Option Addr} {len cap : Nat} {zs : List Int} (hk : In64 k) (hn : In64 n) (h : IsRow .i64 w a len cap zs) : ∃ xs, It w k n a len cap xs := by
  rcases h with ⟨rfl, rfl, rfl, rfl⟩ | ⟨x, rfl, hl, hm, hz, hcell, hwz⟩
  · exact ⟨[], hk, hn, Nat.le_refl _, by omega, rfl, .inl rfl, by omega, by intro x hx; simp at hx⟩
  · unfold maxLen at hm
    exact ⟨zs.take (min len 9), hk, hn, hl, hm, by rw [List.length_take]; omega, lies_of_row _ (by omega) hcell, fun _ => ⟨x, rfl⟩, small_take _ hwz⟩

section
variable {H : Type} {enc : TypeId × Value → H} {W : World}
theorem item_open {fuel : Nat} {cs : List Value} {x : DataW H × List MemPlace} (h : DataW.trod enc Try.prog W 0 (fun _ => true) true fuel 33 cs = some x) :
    ∃ k n a len cap xs, cs = [.int .i64 k, .int .i64 n, .slice a len cap] ∧ It W k n a len cap xs := by
  obtain ⟨y0, y1, y2, m, rfl, hlen, t0, t1, t2⟩ := trod_struct3 Try.underlying33 h
  have hc : Try.prog.cellsOf 33 = 3 := by kernel_rfl
  have hc3 : Try.prog.cellsOf 3 = 1 := by kernel_rfl
  have hc31 : Try.prog.cellsOf 31 = 1 := by kernel_rfl
  rw [hc] at hlen
  match cs, hlen with
  | [v0, v1, v2], _ =>
    simp [hc3, hc31] at t0 t1 t2
    obtain ⟨k, e0, _, w0⟩ := DataW.trod_int Try.underlying3 t0
    obtain ⟨n, e1, _, w1⟩ := DataW.trod_int Try.underlying3 t1
    simp at e0 e1
    subst e0 e1
    rcases open_ints Try.underlying31 Try.underlying3 hc3 t2 with ⟨hcs, _⟩ | ⟨x, l, c, zs, hcs, _, hl, hm, hz, _, hcell, hwz⟩
    · simp at hcs
      subst hcs
      obtain ⟨xs, hx⟩ := it_of_row (in_of_wf w0) (in_of_wf w1) (show IsRow .i64 W none 0 0 [] from .inl ⟨rfl, rfl, rfl, rfl⟩)
      exact ⟨k, n, none, 0, 0, xs, rfl, hx⟩
    · simp at hcs
      subst hcs
      obtain ⟨xs, hx⟩ := it_of_row (in_of_wf w0) (in_of_wf w1) (show IsRow .i64 W (some x) l c zs from .inr ⟨_, rfl, hl, hm, by simpa using hz, hcell, hwz⟩)
      exact ⟨k, n, some x, l, c, xs, rfl, hx⟩
theorem item_came {b0 : Nat} {v : Value} {d : DataW H} {p : List MemPlace} (hv : Value.okWide Try.prog W .any b0 33 v) (h : DataW.Trod enc Try.prog W 0 (fun _ => true) true 33 v d p) :
    ∃ k n a len cap xs, v = .agg #[.int .i64 k, .int .i64 n, .slice a len cap] ∧ It W k n a len cap xs := by
  obtain ⟨cs, rfl, _⟩ := okWide_struct Try.underlying33 hv
  obtain ⟨fuel, hf⟩ := h
  obtain ⟨l⟩ := cs
  have hf' : DataW.trod enc Try.prog W 0 (fun _ => true) true fuel 33 l = some (d, p) := by simpa [Value.cells] using hf
  obtain ⟨k, n, a, len, cap, xs, rfl, hi⟩ := item_open hf'
  exact ⟨k, n, a, len, cap, xs, rfl, hi⟩
end

structure ItemD where
  k : Int
  n : Int
  a : Option Addr
  len : Nat
  cap : Nat
  xs : List Int
instance : Inhabited ItemD := ⟨⟨0, 0, none, 0, 0, []⟩⟩
/-- One item lies at a place. -/
def ItAt (w : World) (b o : Nat) (q : ItemD) : Prop :=
  w.cell? ⟨b, o, none⟩ = some (.int .i64 q.k) ∧ w.cell? ⟨b, o + 1, none⟩ = some (.int .i64 q.n) ∧ w.cell? ⟨b, o + 2, none⟩ = some (.slice q.a q.len q.cap) ∧ It w q.k q.n q.a q.len q.cap q.xs
/-- A slice of items lies in memory: its first ones. -/
def LiesI (w : World) (a : Option Addr) (is : List ItemD) : Prop :=
  is = [] ∨ ∃ b off, a = some ⟨b, off, none⟩ ∧ b < w.heap.size ∧ ∀ j (h : j < is.length), ItAt w b (off + j * 3) is[j]

theorem items_came {H : Type} {enc : TypeId × Value → H} {W : World} {b0 : Nat} {v : Value} {d : DataW H} {p : List MemPlace} (hv : Value.okWide Try.prog W .any b0 22 v) (h : DataW.Trod enc Try.prog W 0 (fun _ => true) true 22 v d p) :
    ∃ a len cap is, v = .slice a len cap ∧ len ≤ 9223372036854775807 ∧ is.length = min len 30 ∧ LiesI W a is := by
  obtain ⟨a, len, cap, rfl⟩ := okWide_slice Try.underlying22 hv
  obtain ⟨fuel, hf⟩ := h
  have hf' : DataW.trod enc Try.prog W 0 (fun _ => true) true fuel 22 [.slice a len cap] = some (d, p) := by simpa [Value.cells] using hf
  rcases open_slice Try.underlying22 hf' with ⟨hcs, _⟩ | ⟨x, len', cap', m, n, D, Pl, hcs, _, hl, hm, hmm, _, hx⟩
  · simp at hcs
    obtain ⟨rfl, rfl, rfl⟩ := hcs
    exact ⟨none, 0, 0, [], rfl, by omega, rfl, .inl rfl⟩
  · simp at hcs
    obtain ⟨rfl, rfl, rfl⟩ := hcs
    simp at hmm
    subst hmm
    unfold maxLen at hm
    have hc : Try.prog.cellsOf 33 = 3 := by kernel_rfl
    by_cases h0 : len = 0
    · exact ⟨_, len, m, [], rfl, by omega, by simp [h0], .inl rfl⟩
    obtain ⟨b, off, spot⟩ := x
    have hspot : spot = none := by
      obtain ⟨cs', h1, h2⟩ := hx 0 (by omega)
      obtain ⟨k, n, a, len, cap, xs, rfl, hit⟩ := item_open h2
      rw [hc] at h1
      obtain ⟨_, _, hcell⟩ := World.cells?_some h1
      have e0 := hcell 0 (by omega)
      have e1 : W.cell? ⟨b, off, spot⟩ = some (.int .i64 k) := by simpa [Addr.add] using e0
      simpa using World.cell?_spot e1
    subst hspot
    have each : ∀ i, i < m → ∃ q : ItemD, b < W.heap.size ∧ ItAt W b (off + i * 3) q := by
      intro i hi
      obtain ⟨cs', h1, h2⟩ := hx i hi
      rw [hc] at h1
      obtain ⟨k, n, a, len, cap, xs, rfl, hit⟩ := item_open h2
      obtain ⟨_, _, hcell⟩ := World.cells?_some h1
      have e0 := hcell 0 (by omega)
      have e1 := hcell 1 (by omega)
      have e2 := hcell 2 (by omega)
      rw [add_add, Addr.add_lit] at e0 e1 e2
      refine ⟨⟨k, n, a, len, cap, xs⟩, ?_, by simpa using e0, by simpa [Nat.add_assoc] using e1, by simpa [Nat.add_assoc] using e2, hit⟩
      exact lt_of_cell e0
    obtain ⟨q, hq⟩ := choose_lt each
    obtain ⟨hb, _⟩ := hq 0 (by omega)
    refine ⟨_, len, m, (List.range (min len 30)).map q, rfl, by omega, by simp, .inr ⟨b, off, rfl, hb, fun j hj => ?_⟩⟩
    simp at hj
    have := (hq j (by omega)).2
    simpa using this
end Go.Proofs.Ytifellblfafhmaa
