/- Acts that came in, opened; their numbers are of 64 bits. What the two loops' words have to do with each other. -/
import Derived.Test.YtclikkhaaiihdaaFrame
import Derived.WalkKit
import Derived.ProofKit
import Derived.OpenShut
import Derived.Deep.Slices
import Derived.Deep.Strs
namespace Go.Proofs.Ytclikkhaaiihdaa
open Go.ChangeShapes Go.WideShapes Go.ChangeAt Go.RowKit Go.Deep
set_option linter.unusedVariables false

section
variable {H : Type} {enc : TypeId × Value → H} {W : World}
theorem act_open64 {fuel : Nat} {cs : List Value} {x : DataW H × List MemPlace} (h : DataW.trod enc Try.prog W 0 (fun _ => true) true fuel 33 cs = some x) :
    ∃ s : ActD, cs = s.cells ∧ In64 s.n := by
  obtain ⟨y0, y1, y2, y3, m, hlen, t0, t1, t2, t3⟩ := trod_struct4 Try.underlying33 h
  have hc : Try.prog.cellsOf 33 = 4 := by kernel_rfl
  have hc3 : Try.prog.cellsOf 3 = 1 := by kernel_rfl
  have hc4 : Try.prog.cellsOf 4 = 1 := by kernel_rfl
  rw [hc] at hlen
  match cs, hlen with
  | [v0, v1, v2, v3], _ =>
    simp [hc3, hc4] at t0 t1 t2 t3
    obtain ⟨k, e0, _, _⟩ := DataW.trod_int Try.underlying3 t0
    obtain ⟨i, e1, _, wf1⟩ := DataW.trod_int Try.underlying3 t1
    obtain ⟨far, e2, _⟩ := DataW.trod_bool Try.underlying4 t2
    obtain ⟨odd, e3, _⟩ := DataW.trod_bool Try.underlying4 t3
    simp at e0 e1 e2 e3
    subst e0 e1 e2 e3
    exact ⟨⟨k, i, far, odd⟩, rfl, in_of_wf wf1⟩
end

/-- One act lies at a place. -/
def ActAt64 (w : World) (b o : Nat) (q : ActD) : Prop :=
  w.cell? ⟨b, o, none⟩ = some (.int .i64 q.k) ∧ w.cell? ⟨b, o + 1, none⟩ = some (.int .i64 q.n) ∧ w.cell? ⟨b, o + 2, none⟩ = some (.bool q.far) ∧ w.cell? ⟨b, o + 3, none⟩ = some (.bool q.odd) ∧ In64 q.n
/-- A slice of acts lies in memory: its first ones. -/
def LiesA64 (w : World) (a : Option Addr) (is : List ActD) : Prop :=
  is = [] ∨ ∃ b off, a = some ⟨b, off, none⟩ ∧ b < w.heap.size ∧ ∀ j (h : j < is.length), ActAt64 w b (off + j * 4) is[j]
theorem LiesA64.below {w w' : World} {a : Option Addr} {is : List ActD} (h : LiesA64 w a is) (hb : Below w.heap.size w w') : LiesA64 w' a is := by
  rcases h with h | ⟨b, off, rfl, hl, hc⟩
  · exact .inl h
  · refine .inr ⟨b, off, rfl, Nat.lt_of_lt_of_le hl hb.size, fun j hj => ?_⟩
    obtain ⟨c0, c1, c2, c3, c4⟩ := hc j hj
    refine ⟨?_, ?_, ?_, ?_, c4⟩
    · rw [hb.cell (p := ⟨b, _, none⟩) hl]; exact c0
    · rw [hb.cell (p := ⟨b, _, none⟩) hl]; exact c1
    · rw [hb.cell (p := ⟨b, _, none⟩) hl]; exact c2
    · rw [hb.cell (p := ⟨b, _, none⟩) hl]; exact c3

theorem acts_came64 {H : Type} {enc : TypeId × Value → H} {W : World} {b0 : Nat} {v : Value} {d : DataW H} {p : List MemPlace} (hv : Value.okWide Try.prog W .any b0 22 v) (h : DataW.Trod enc Try.prog W 0 (fun _ => true) true 22 v d p) :
    ∃ a len cap is, v = .slice a len cap ∧ len ≤ 9223372036854775807 ∧ is.length = min len 50 ∧ LiesA64 W a is := by
  obtain ⟨a, len, cap, rfl⟩ := okWide_slice Try.underlying22 hv
  obtain ⟨fuel, hf⟩ := h
  have hf' : DataW.trod enc Try.prog W 0 (fun _ => true) true fuel 22 [.slice a len cap] = some (d, p) := by simpa [Value.cells] using hf
  rcases open_slice Try.underlying22 hf' with ⟨hcs, _⟩ | ⟨x, len', cap', m, n, D, Pl, hcs, _, hl, hm, hmm, _, hx⟩
  · simp at hcs
    obtain ⟨rfl, rfl, rfl⟩ := hcs
    exact ⟨none, 0, 0, [], rfl, by omega, rfl, .inl rfl⟩
  · simp at hcs
    obtain ⟨rfl, rfl, rfl⟩ := hcs
    simp at hmm
    subst hmm
    unfold maxLen at hm
    have hc : Try.prog.cellsOf 33 = 4 := by kernel_rfl
    by_cases h0 : len = 0
    · exact ⟨_, len, m, [], rfl, by omega, by simp [h0], .inl rfl⟩
    obtain ⟨b, off, spot⟩ := x
    have hspot : spot = none := by
      obtain ⟨cs', h1, h2⟩ := hx 0 (by omega)
      obtain ⟨s, rfl, hs64⟩ := act_open64 h2
      rw [hc] at h1
      obtain ⟨_, _, hcell⟩ := World.cells?_some h1
      have e0 := hcell 0 (by omega)
      have e1 : W.cell? ⟨b, off, spot⟩ = some (.int .i64 s.k) := by simpa [Addr.add, ActD.cells] using e0
      simpa using World.cell?_spot e1
    subst hspot
    have each : ∀ i, i < m → ∃ q : ActD, b < W.heap.size ∧ ActAt64 W b (off + i * 4) q := by
      intro i hi
      obtain ⟨cs', h1, h2⟩ := hx i hi
      rw [hc] at h1
      obtain ⟨s, rfl, hs64⟩ := act_open64 h2
      obtain ⟨_, _, hcell⟩ := World.cells?_some h1
      have e0 := hcell 0 (by omega)
      have e1 := hcell 1 (by omega)
      have e2 := hcell 2 (by omega)
      have e3 := hcell 3 (by omega)
      rw [add_add, Addr.add_lit] at e0 e1 e2 e3
      refine ⟨s, ?_, by simpa [ActD.cells] using e0, by simpa [Nat.add_assoc, ActD.cells] using e1, by simpa [Nat.add_assoc, ActD.cells] using e2, by simpa [Nat.add_assoc, ActD.cells] using e3, hs64⟩
      exact lt_of_cell e0
    obtain ⟨q, hq⟩ := choose_lt each
    obtain ⟨hb, _⟩ := hq 0 (by omega)
    refine ⟨_, len, m, (List.range (min len 50)).map q, rfl, by omega, by simp, .inr ⟨b, off, rfl, hb, fun j hj => ?_⟩⟩
    simp at hj
    have := (hq j (by omega)).2
    simpa using this

/-- The arena's words: two of 0, those of the document's loop, one of 0. -/
structure Lay3 (m : Nat) (L Lm : List Int) : Prop where
  len : L.length = m + 3
  lenm : Lm.length = m
  mid : ∀ i, i < m → L.getD (2 + i) 0 = Lm.getD i 0
  z0 : L.getD 0 0 = 0
  z1 : L.getD 1 0 = 0
  z2 : L.getD (m + 2) 0 = 0
theorem lay3_zero (m : Nat) : Lay3 m (List.replicate (m + 3) 0) (List.replicate m 0) := by
  refine ⟨by simp, by simp, fun i hi => ?_, ?_, ?_, ?_⟩
  · simp [List.getD_eq_getElem?_getD, hi, show 2 + i < m + 3 by omega]
  all_goals simp [List.getD_eq_getElem?_getD]
theorem Lay3.push {m R d : Nat} {L Lm : List Int} (h : Lay3 m L Lm) (cnt : Int) (xs : List Int) (hd : 1 ≤ d) (hr : roomN m (d : Int) = R) (hR : 1 ≤ R) : Lay3 m (pushL L 2 R d cnt xs) (pushL Lm 0 R d cnt xs) := by
  obtain ⟨h1, h2⟩ := at_bd cnt m R (d : Int) (by omega) hr hR
  have key : ∀ i, (pushL L 2 R d cnt xs).getD i 0 = if 2 + (atI cnt R (d : Int)).toNat ≤ i ∧ i < 2 + (atI cnt R (d : Int)).toNat + d ∧ i < m + 3 then xs.getD (i - (2 + (atI cnt R (d : Int)).toNat)) 0 else L.getD i 0 := by
    intro i
    unfold pushL
    rw [layTo_getD, h.len]
  refine ⟨by rw [push_len]; exact h.len, by rw [push_len]; exact h.lenm, fun i hi => ?_, ?_, ?_, ?_⟩
  · rw [key]
    unfold pushL
    rw [layTo_getD, h.lenm]
    by_cases hc : (atI cnt R (d : Int)).toNat ≤ i ∧ i < (atI cnt R (d : Int)).toNat + d
    · rw [if_pos (by omega), if_pos (by omega)]
      congr 1
      omega
    · rw [if_neg (by omega), if_neg (by omega)]
      exact h.mid i hi
  · rw [key, if_neg (by omega)]; exact h.z0
  · rw [key, if_neg (by omega)]; exact h.z1
  · rw [key, if_neg (by omega)]; exact h.z2
theorem Lay3.row {m R d : Nat} {L Lm : List Int} (h : Lay3 m L Lm) (t : Int) (hd : 1 ≤ d) (hr : roomN m (d : Int) = R) (hR : 1 ≤ R) : rowL L (2 + (atI t R (d : Int)).toNat) d = rowL Lm (atI t R (d : Int)).toNat d := by
  obtain ⟨h1, h2⟩ := at_bd t m R (d : Int) (by omega) hr hR
  refine rowL_congr (fun j hj => ?_)
  rw [Nat.add_assoc]
  exact h.mid _ (by omega)
theorem Lay3.lies {m r : Nat} {L Lm : List Int} {w : World} (h : Lay3 m L Lm) (hc : Cells w r (ints L)) : Lies w (some ⟨r, 2, none⟩) Lm :=
  Or.inr ⟨r, 2, rfl, hc.lt, fun j hj => by
    have hj' : j < m := by rw [← h.lenm]; exact hj
    have := hc.cell (2 + j) _ (ints_at L (2 + j) (by rw [h.len]; omega))
    rw [h.mid j hj'] at this
    exact this⟩
end Go.Proofs.Ytclikkhaaiihdaa
