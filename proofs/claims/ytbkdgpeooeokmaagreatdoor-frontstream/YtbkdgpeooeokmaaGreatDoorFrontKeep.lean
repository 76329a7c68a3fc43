/- Frames that were told stay as they are while a stream goes on. -/
import Derived.Test.YtbkdgpeooeokmaaGreatDoorFrontWake
import Derived.Laws.OwnMore
namespace Go.Proofs.YtbkdgpeooeokmaaGreatDoor
open Go.RowKit
set_option linter.unusedVariables false

/-- All blocks below H, but c, are as they were. -/
structure Kept (H c : Nat) (w w' : World) : Prop where
  os : w'.os = w.os
  tape : w'.tape = w.tape
  output : w'.output = w.output
  size : w.heap.size ≤ w'.heap.size
  block : ∀ k, k < H → k ≠ c → w'.heap[k]? = w.heap[k]?
theorem Kept.refl (H c : Nat) (w : World) : Kept H c w w := ⟨rfl, rfl, rfl, Nat.le_refl _, fun _ _ _ => rfl⟩
theorem Kept.trans {H c : Nat} {a b d : World} (h : Kept H c a b) (k : Kept H c b d) : Kept H c a d :=
  ⟨k.os.trans h.os, k.tape.trans h.tape, k.output.trans h.output, Nat.le_trans h.size k.size, fun i hi hc => (k.block i hi hc).trans (h.block i hi hc)⟩
theorem Kept.mono {H H' c : Nat} {w w' : World} (h : Kept H c w w') (hh : H' ≤ H) : Kept H' c w w' := ⟨h.os, h.tape, h.output, h.size, fun k hk hc => h.block k (by omega) hc⟩
theorem Kept.of_only {H c : Nat} {w w' : World} (h : Only c w w') (hH : H ≤ w.heap.size) : Kept H c w w' := ⟨h.os, h.tape, h.output, h.size, fun k hk hc => h.block k (by omega) hc⟩
theorem Kept.of_below {H c : Nat} {w w' : World} (h : Below w.heap.size w w') (hH : H ≤ w.heap.size) : Kept H c w w' := Kept.of_only (Only.of_below h) hH
theorem Kept.of_grown {H c : Nat} {w w' : World} {row : Option Nat} (h : w.grownBy w' row) (hr : ∀ k, row = some k → H ≤ k) (hH : H ≤ w.heap.size) : Kept H c w w' :=
  ⟨h.os, h.tape, h.output, h.size, fun k hk _ => h.block k (by omega) fun e => by have := hr k e.symm; omega⟩
theorem Kept.below {H c B : Nat} {w w' : World} (h : Kept H c w w') (h1 : B ≤ c) (h2 : B ≤ H) : Below B w w' := ⟨h.os, h.tape, h.output, h.size, fun k hk => h.block k (by omega) (by omega)⟩
theorem Lies.kept {H c : Nat} {w w' : World} {a : Option Addr} {xs : List Int} (h : Lies w a xs) (hk : Kept H c w w') (hne : ∀ q, a = Option.some q → q.block ≠ c ∧ q.block < H) : Lies w' a xs := by
  rcases h with h | ⟨b, off, rfl, hlt, hc⟩
  · exact .inl h
  · obtain ⟨h1, h2⟩ := hne _ rfl
    exact .inr ⟨b, off, rfl, Nat.lt_of_lt_of_le hlt hk.size, fun j hj => by rw [World.cell?_of_block (hk.block b h2 h1)]; exact hc j hj⟩
theorem owns_kept {H c base n : Nat} {w w' : World} {t : TypeId} {v : Value} {xs : List Value} (h : w.ownsRow base t 1 v n xs) (hk : Kept H c w w') (hc : c < base) (hH : w.heap.size ≤ H) : w'.ownsRow base t 1 v n xs := by
  refine ⟨h.1, ?_⟩
  rcases h.2 with h' | ⟨g, cap, cur, h1, h2, h3, h4⟩
  · exact .inl h'
  · exact .inr ⟨g, cap, cur, h1, h2, by rw [hk.block g (by have := (Array.getElem?_eq_some_iff.1 h3).1; omega) (by omega)]; exact h3, h4⟩
theorem FRow.kept {H c lo : Nat} {w w' : World} {r : Rr} (h : FRow lo w r) (hk : Kept H c w w') (hc : c < lo) (hH : w.heap.size ≤ H) : FRow lo w' r := by
  obtain ⟨b, h1, h2, h3, h4⟩ := h
  refine ⟨b, h1, h2, h3, h4.kept hk fun q hq => ?_⟩
  rw [h1] at hq
  cases hq
  refine ⟨by show b ≠ c; omega, ?_⟩
  rcases h4 with h5 | ⟨b', off, hb, hlt, _⟩
  · rw [h5] at h3; exact absurd h3 (by decide)
  · rw [h1] at hb; cases hb; show b < H; omega
theorem FRow.under {lo : Nat} {w : World} {r : Rr} (h : FRow lo w r) : ∃ b, r.1 = some ⟨b, 0, none⟩ ∧ b < w.heap.size := by
  obtain ⟨b, h1, h2, h3, h4⟩ := h
  refine ⟨b, h1, ?_⟩
  rcases h4 with h5 | ⟨b', off, hb, hlt, _⟩
  · rw [h5] at h3; exact absurd h3 (by decide)
  · rw [h1] at hb; cases hb; exact hlt
/-- Rows of numbers stay where another row of rows grows, that is younger than they. -/
theorem FRow.grown_new {lo base : Nat} {w w' : World} {r : Rr} {row : Option Nat} (h : FRow lo w r) (hu : ∃ b, r.1 = some ⟨b, 0, none⟩ ∧ b < base) (hg : w.grownBy w' row) (hr : ∀ k, row = some k → base ≤ k) : FRow lo w' r := by
  obtain ⟨b, h1, h2, h3, h4⟩ := h
  obtain ⟨b', h5, h6⟩ := hu
  rw [h1] at h5
  cases h5
  rw [h1] at h4
  refine ⟨b, h1, h2, h3, ?_⟩
  rw [h1]
  exact flies_grown h4 hg fun e => by have := hr b e; omega
/-- .. or that is elder than they. -/
theorem FRow.grown_old {lo : Nat} {w w' : World} {r : Rr} {row : Option Nat} (h : FRow lo w r) (hg : w.grownBy w' row) (hr : ∀ k, row = some k → k < lo) : FRow lo w' r := by
  obtain ⟨b, h1, h2, h3, h4⟩ := h
  rw [h1] at h4
  refine ⟨b, h1, h2, h3, ?_⟩
  rw [h1]
  exact flies_grown h4 hg fun e => by have := hr b e; omega
/-- .. or where it is they that the row of rows holds. -/
theorem FRow.grown_own {lo base : Nat} {w w' : World} {r : Rr} {v : Value} {rs : List Rr} {t : TypeId} (h : FRow lo w r) (hg : w.grownBy w' v.ownBlock) (ho : w.ownsRow base t 1 v rs.length (rs.map rowV)) (hn : rs = [] → v = .slice none 0 0) : FRow lo w' r := by
  by_cases e : rs = []
  · rw [hn e] at hg
    obtain ⟨b, h1, h2, h3, h4⟩ := h
    rw [h1] at h4
    exact ⟨b, h1, h2, h3, by rw [h1]; exact flies_grown h4 hg (by simp [Value.ownBlock])⟩
  · exact h.grown hg ho e
/-- What a told row of rows is made of: nothing, or a block. -/
theorem rrow_cases {w : World} {base : Nat} {v : Value} {rs : List Rr} {t : TypeId} (h : w.ownsRow base t 1 v rs.length (rs.map rowV)) : (v = .slice none 0 0 ∧ rs = []) ∨ ∃ g cap, v = .slice (some ⟨g, 0, none⟩) rs.length cap ∧ base ≤ g ∧ g < w.heap.size ∧ (∀ j u, (rs.map rowV)[j]? = some u → w.cell? ((⟨g, 0, none⟩ : Addr).add j) = some u) := by
  rcases h.2 with ⟨h1, h2⟩ | ⟨g, cap, cur, h1, h2, h3, h4⟩
  · exact .inl ⟨h1, List.length_eq_zero_iff.1 h2⟩
  · exact .inr ⟨g, cap, h1, h2, (Array.getElem?_eq_some_iff.1 h3).1, h.cells (by rw [h1]; rfl)⟩
theorem rowV_one (rs : List Rr) : ∀ u ∈ rs.map rowV, u.oneCell' = true := by
  intro u hu
  obtain ⟨r, _, rfl⟩ := List.mem_map.1 hu
  rfl
theorem front_mod (t : Int) (n : Nat) (h1 : 1 ≤ n) (h2 : n ≤ 1000000) : ∃ i : Nat, (wrap64 (t.tmod (n : Int) + (n : Int))).tmod (n : Int) = (i : Int) ∧ i < n := by
  have a := Int.tmod_lt_of_pos t (b := (n : Int)) (by omega)
  have b := Int.lt_tmod_of_pos t (b := (n : Int)) (by omega)
  rw [w64_in ⟨by omega, by omega⟩]
  have c := Int.tmod_lt_of_pos (t.tmod (n : Int) + (n : Int)) (b := (n : Int)) (by omega)
  have d := Int.tmod_nonneg (n : Int) (show 0 ≤ t.tmod (n : Int) + (n : Int) by omega)
  exact ⟨((t.tmod (n : Int) + (n : Int)).tmod (n : Int)).toNat, by omega, by omega⟩
/-- Frames of a part, and of the rest. -/
theorem told_take {β : Type} (g : List Int → β) (s p : Nat) (pre : Int) (t : StD) (L : List Int) (K : Nat) (h0 : 0 < p) (hp : p ≤ s) : stTold g s p pre t L = stTold g s p pre t (L.take K) ++ stTold g s p pre (stPush s p pre t (L.take K)) (L.drop K) := by
  rw [← told_two g s p pre t _ _ h0 hp, List.take_append_drop]
theorem push_take (s p : Nat) (pre : Int) (t : StD) (L : List Int) (i : Nat) (x : Int) (h : i < L.length) (hx : L.getD i 0 = x) (h0 : 0 < p) (hp : p ≤ s) : stPush s p pre t (L.take (i + 1)) = stPush s p pre (stPush s p pre t (L.take i)) [x] := by
  rw [take_more L i x h hx, push_two s p pre t _ _ h0 hp]
theorem told_step {β : Type} (g : List Int → β) (s p : Nat) (pre : Int) (t : StD) (L : List Int) (i : Nat) (x : Int) (h : i < L.length) (hx : L.getD i 0 = x) (h0 : 0 < p) (hp : p ≤ s) : stTold g s p pre t (L.take (i + 1)) = stTold g s p pre t (L.take i) ++ stTold g s p pre (stPush s p pre t (L.take i)) [x] := by
  rw [take_more L i x h hx, told_two g s p pre t _ _ h0 hp]
theorem frames_few (s p m : Nat) (h0 : 0 < p) (h : m < s) : framesN s p (m + 1) ≤ 1 := by
  unfold framesN
  split
  · omega
  · rw [show m + 1 - s = 0 by omega, Nat.zero_div]; omega
theorem owns_nil {w : World} {base : Nat} {t : TypeId} {v : Value} {rs rt : List Rr} (h : w.ownsRow base t 1 v (rs.length + rt.length) (rs.map rowV ++ rt.map rowV)) : w.ownsRow base t 1 v (rs ++ rt).length ((rs ++ rt).map rowV) := by
  rw [List.length_append, List.map_append]; exact h
theorem stPush_none (n p : Nat) (pre : Int) (h : 0 < n) : stPush n p pre stNone [] = stNone := by
  show (⟨0 + 0, lastOf 0 [], restF n p ([] ++ flatFrom pre 0 [])⟩ : StD) = ⟨0, 0, []⟩
  simp [restF, flatFrom, lastOf]
end Go.Proofs.YtbkdgpeooeokmaaGreatDoor
