/- Frames that were told stay as they are while a stream goes on. -/
import Derived.Test.YtbkdgpeooeokmaaDoorFrontWake
import Derived.Laws.OwnMore
namespace Go.Proofs.YtbkdgpeooeokmaaDoor
open Go.RowKit
set_option linter.unusedVariables false

/-- All blocks below H, but c, are as they were. -/
structure Kept (H c : Nat) (w w' : World) : Prop where
  os : w'.os = w.os
  tape : w'.tape = w.tape
  output : w'.output = w.output
  size : w.heap.size ≤ w'.heap.size
  block : ∀ k, k < H → k ≠ c → w'.heap[k]? = w.heap[k]?
theorem Kept.refl (H c : Nat) (w : World) : Kept H c w w := ⟨rfl, rfl, rfl, Nat.le_refl _, fun _ _ _ => rfl⟩
theorem Kept.trans {H c : Nat} {a b d : World} (h : Kept H c a b) (k : Kept H c b d) : Kept H c a d :=
  ⟨k.os.trans h.os, k.tape.trans h.tape, k.output.trans h.output, Nat.le_trans h.size k.size, fun i hi hc => (k.block i hi hc).trans (h.block i hi hc)⟩
theorem Kept.mono {H H' c : Nat} {w w' : World} (h : Kept H c w w') (hh : H' ≤ H) : Kept H' c w w' := ⟨h.os, h.tape, h.output, h.size, fun k hk hc => h.block k (by omega) hc⟩
theorem Kept.of_only {H c : Nat} {w w' : World} (h : Only c w w') (hH : H ≤ w.heap.size) : Kept H c w w' := ⟨h.os, h.tape, h.output, h.size, fun k hk hc => h.block k (by omega) hc⟩
theorem Kept.of_below {H c : Nat} {w w' : World} (h : Below w.heap.size w w') (hH : H ≤ w.heap.size) : Kept H c w w' := Kept.of_only (Only.of_below h) hH
theorem Kept.of_grown {H c : Nat} {w w' : World} {row : Option Nat} (h : w.grownBy w' row) (hr : ∀ k, row = some k → H ≤ k) (hH : H ≤ w.heap.size) : Kept H c w w' :=
  ⟨h.os, h.tape, h.output, h.size, fun k hk _ => h.block k (by omega) fun e => by have := hr k e.symm; omega⟩
theorem Kept.below {H c B : Nat} {w w' : World} (h : Kept H c w w') (h1 : B ≤ c) (h2 : B ≤ H) : Below B w w' := ⟨h.os, h.tape, h.output, h.size, fun k hk => h.block k (by omega) (by omega)⟩
theorem Lies.kept {H c : Nat} {w w' : World} {a : Option Addr} {xs : List Int} (h : Lies w a xs) (hk : Kept H c w w') (hne : ∀ q, a = Option.some q → q.block ≠ c ∧ q.block < H) : Lies w' a xs := by
  rcases h with h | ⟨b, off, rfl, hlt, hc⟩
  · exact .inl h
  · obtain ⟨h1, h2⟩ := hne _ rfl
    exact .inr ⟨b, off, rfl, Nat.lt_of_lt_of_le hlt hk.size, fun j hj => by rw [World.cell?_of_block (hk.block b h2 h1)]; exact hc j hj⟩
theorem owns_kept {H c base n : Nat} {w w' : World} {t : TypeId} {v : Value} {xs : List Value} (h : w.ownsRow base t 1 v n xs) (hk : Kept H c w w') (hc : c < base) (hH : w.heap.size ≤ H) : w'.ownsRow base t 1 v n xs := by
  refine ⟨h.1, ?_⟩
  rcases h.2 with h' | ⟨g, cap, cur, h1, h2, h3, h4⟩
  · exact .inl h'
  · exact .inr ⟨g, cap, cur, h1, h2, by rw [hk.block g (by have := (Array.getElem?_eq_some_iff.1 h3).1; omega) (by omega)]; exact h3, h4⟩
theorem FRow.kept {H c lo : Nat} {w w' : World} {r : Rr} (h : FRow lo w r) (hk : Kept H c w w') (hc : c < lo) (hH : w.heap.size ≤ H) : FRow lo w' r := by
  obtain ⟨b, h1, h2, h3, h4⟩ := h
  refine ⟨b, h1, h2, h3, h4.kept hk fun q hq => ?_⟩
  rw [h1] at hq
  cases hq
  refine ⟨by show b ≠ c; omega, ?_⟩
  rcases h4 with h5 | ⟨b', off, hb, hlt, _⟩
  · rw [h5] at h3; exact absurd h3 (by decide)
  · rw [h1] at hb; cases hb; show b < H; omega
theorem FRow.under {lo : Nat} {w : World} {r : Rr} (h : FRow lo w r) : ∃ b, r.1 = some ⟨b, 0, none⟩ ∧ b < w.heap.size := by
  obtain ⟨b, h1, h2, h3, h4⟩ := h
  refine ⟨b, h1, ?_⟩
  rcases h4 with h5 | ⟨b', off, hb, hlt, _⟩
  · rw [h5] at h3; exact absurd h3 (by decide)
  · rw [h1] at hb; cases hb; exact hlt
/-- Rows of numbers stay where another row of rows grows, that is younger than they. -/
theorem FRow.grown_new {lo base : Nat} {w w' : World} {r : Rr} {row : Option Nat} (h : FRow lo w r) (hu : ∃ b, r.1 = some ⟨b, 0, none⟩ ∧ b < base) (hg : w.grownBy w' row) (hr : ∀ k, row = some k → base ≤ k) : FRow lo w' r := by
  obtain ⟨b, h1, h2, h3, h4⟩ := h
  obtain ⟨b', h5, h6⟩ := hu
  rw [h1] at h5
  cases h5
  rw [h1] at h4
  refine ⟨b, h1, h2, h3, ?_⟩
  rw [h1]
  exact flies_grown h4 hg fun e => by have := hr b e; omega
/-- .. or that is elder than they. -/
theorem FRow.grown_old {lo : Nat} {w w' : World} {r : Rr} {row : Option Nat} (h : FRow lo w r) (hg : w.grownBy w' row) (hr : ∀ k, row = some k → k < lo) : FRow lo w' r := by
  obtain ⟨b, h1, h2, h3, h4⟩ := h
  rw [h1] at h4
  refine ⟨b, h1, h2, h3, ?_⟩
  rw [h1]
  exact flies_grown h4 hg fun e => by have := hr b e; omega
/-- .. or where it is they that the row of rows holds. -/
theorem FRow.grown_own {lo base : Nat} {w w' : World} {r : Rr} {v : Value} {rs : List Rr} {t : TypeId} (h : FRow lo w r) (hg : w.grownBy w' v.ownBlock) (ho : w.ownsRow base t 1 v rs.length (rs.map rowV)) (hn : rs = [] → v = .slice none 0 0) : FRow lo w' r := by
  by_cases e : rs = []
  · rw [hn e] at hg
    obtain ⟨b, h1, h2, h3, h4⟩ := h
    rw [h1] at h4
    exact ⟨b, h1, h2, h3, by rw [h1]; exact flies_grown h4 hg (by simp [Value.ownBlock])⟩
  · exact h.grown hg ho e
/-- What a told row of rows is made of: nothing, or a block. -/
theorem rrow_cases {w : World} {base : Nat} {v : Value} {rs : List Rr} {t : TypeId} (h : w.ownsRow base t 1 v rs.length (rs.map rowV)) : (v = .slice none 0 0 ∧ rs = []) ∨ ∃ g cap, v = .slice (some ⟨g, 0, none⟩) rs.length cap ∧ base ≤ g ∧ g < w.heap.size ∧ (∀ j u, (rs.map rowV)[j]? = some u → w.cell? ((⟨g, 0, none⟩ : Addr).add j) = some u) := by
  rcases h.2 with ⟨h1, h2⟩ | ⟨g, cap, cur, h1, h2, h3, h4⟩
  · exact .inl ⟨h1, List.length_eq_zero_iff.1 h2⟩
  · exact .inr ⟨g, cap, h1, h2, (Array.getElem?_eq_some_iff.1 h3).1, h.cells (by rw [h1]; rfl)⟩
/-- .. as a slice. -/
def RowSrc (w : World) (a : Option Addr) (m c : Nat) (news : List Value) : Prop := (a = none ∧ m = 0 ∧ c = 0 ∧ news = []) ∨ ∃ g, a = some ⟨g, 0, none⟩ ∧ (∀ j u, news[j]? = some u → w.cell? ((⟨g, 0, none⟩ : Addr).add j) = some u)
theorem RowSrc.below {w w' : World} {a : Option Addr} {m c : Nat} {rs : List Rr} (h : RowSrc w a m c (rs.map rowV)) (hb : Below w.heap.size w w') : RowSrc w' a m c (rs.map rowV) := by
  rcases h with h | ⟨g, h1, h2⟩
  · exact .inl h
  · refine .inr ⟨g, h1, fun j u hu => ?_⟩
    have := h2 j u hu
    rw [Addr.add_lit] at this ⊢
    rw [hb.cell (p := ⟨g, 0 + j, none⟩) (lt_of_cell this)]
    exact this
theorem rrow_slice {w : World} {base : Nat} {v : Value} {rs : List Rr} {t : TypeId} (h : w.ownsRow base t 1 v rs.length (rs.map rowV)) : ∃ a c, v = .slice a rs.length c ∧ RowSrc w a rs.length c (rs.map rowV) := by
  rcases rrow_cases h with ⟨h1, h2⟩ | ⟨g, cap, h1, _, _, h4⟩
  · subst h2; exact ⟨none, 0, h1, .inl ⟨rfl, rfl, rfl, rfl⟩⟩
  · exact ⟨_, _, h1, .inr ⟨g, rfl, h4⟩⟩
/-- append of a row of rows that is there, or is nil. -/
theorem wpList_append_rows {P : Program} {w : World} {ops : Array Oper} {rest : List Oper} {o : Oper} {a : Act} {Q : Exit → Act → World → Prop} (hgd : o.guard = none) (s x : Operand) (t : TypeId)
    (ho : o.op = .call { callee := .builtin .append, args := #[s, x], argTypes := #[t, t] })
    (base : Nat) (e : TypeId) (i : TypeInfo) (z : Value) (bytes : Nat) (ht : P.underlying t = some (.slice e)) (hi : P.info? e = some i) (hz : i.zero = some z)
    (hsize : i.size = 1) (hby : i.bytes = bytes) (hzs : z.cells.size = 1)
    (v : Value) (n : Nat) (xs : List Value) (hs : a.eval s = v) (hown : w.ownsRow base e 1 v n xs)
    (ax : Option Addr) (m c : Nat) (rs : List Rr) (hx : a.eval x = .slice ax m c) (hsrc : RowSrc w ax m c (rs.map rowV)) (hl : rs.length = m)
    (h63 : n + m ≤ maxLen) (hbytes : (n + m) * bytes ≤ 140737488355328) (hbase : base ≤ w.heap.size)
    (h : ∀ v' w', w'.ownsRow base e 1 v' (n + m) (xs ++ rs.map rowV) → w.grownBy w' v.ownBlock → (v' = .slice none 0 0 ↔ v = .slice none 0 0 ∧ m = 0) → wpList P ops Q rest (a.put o.dst v') w') : wpList P ops Q (o :: rest) a w := by
  rcases hsrc with ⟨rfl, rfl, rfl, h4⟩ | ⟨g, rfl, h2⟩
  · refine wpList_append_own_none hgd s x t ho base e i 1 ht hi v n xs hs hown hx (h v w ?_ ⟨rfl, rfl, rfl, Nat.le_refl _, fun _ _ _ => rfl⟩ ⟨fun e => ⟨e, rfl⟩, fun e => e.1⟩)
    rw [h4, List.append_nil]; exact hown
  · exact wpList_append_own w hgd s x t ho base e i z 1 bytes ht hi hz hsize hby hzs (by decide) v n xs hs hown _ m c (rs.map rowV) hx (by simp [hl]) h2 (fun u hu => by obtain ⟨r, _, rfl⟩ := List.mem_map.1 hu; rfl) h63 hbytes hbase h
theorem rowV_one (rs : List Rr) : ∀ u ∈ rs.map rowV, u.oneCell' = true := by
  intro u hu
  obtain ⟨r, _, rfl⟩ := List.mem_map.1 hu
  rfl
theorem front_mod (t : Int) (n : Nat) (h1 : 1 ≤ n) (h2 : n ≤ 1000000) : ∃ i : Nat, (wrap64 (t.tmod (n : Int) + (n : Int))).tmod (n : Int) = (i : Int) ∧ i < n := by
  have a := Int.tmod_lt_of_pos t (b := (n : Int)) (by omega)
  have b := Int.lt_tmod_of_pos t (b := (n : Int)) (by omega)
  rw [w64_in ⟨by omega, by omega⟩]
  have c := Int.tmod_lt_of_pos (t.tmod (n : Int) + (n : Int)) (b := (n : Int)) (by omega)
  have d := Int.tmod_nonneg (n : Int) (show 0 ≤ t.tmod (n : Int) + (n : Int) by omega)
  exact ⟨((t.tmod (n : Int) + (n : Int)).tmod (n : Int)).toNat, by omega, by omega⟩
/-- Frames of a part, and of the rest. -/
theorem told_take {β : Type} (g : List Int → β) (s p : Nat) (pre : Int) (t : StD) (L : List Int) (K : Nat) (h0 : 0 < p) (hp : p ≤ s) : stTold g s p pre t L = stTold g s p pre t (L.take K) ++ stTold g s p pre (stPush s p pre t (L.take K)) (L.drop K) := by
  rw [← told_two g s p pre t _ _ h0 hp, List.take_append_drop]
theorem push_take (s p : Nat) (pre : Int) (t : StD) (L : List Int) (i : Nat) (x : Int) (h : i < L.length) (hx : L.getD i 0 = x) (h0 : 0 < p) (hp : p ≤ s) : stPush s p pre t (L.take (i + 1)) = stPush s p pre (stPush s p pre t (L.take i)) [x] := by
  rw [take_more L i x h hx, push_two s p pre t _ _ h0 hp]
theorem told_step {β : Type} (g : List Int → β) (s p : Nat) (pre : Int) (t : StD) (L : List Int) (i : Nat) (x : Int) (h : i < L.length) (hx : L.getD i 0 = x) (h0 : 0 < p) (hp : p ≤ s) : stTold g s p pre t (L.take (i + 1)) = stTold g s p pre t (L.take i) ++ stTold g s p pre (stPush s p pre t (L.take i)) [x] := by
  rw [take_more L i x h hx, told_two g s p pre t _ _ h0 hp]
theorem frames_few (s p m : Nat) (h0 : 0 < p) (h : m < s) : framesN s p (m + 1) ≤ 1 := by
  unfold framesN
  split
  · omega
  · rw [show m + 1 - s = 0 by omega, Nat.zero_div]; omega
theorem owns_nil {w : World} {base : Nat} {t : TypeId} {v : Value} {rs rt : List Rr} (h : w.ownsRow base t 1 v (rs.length + rt.length) (rs.map rowV ++ rt.map rowV)) : w.ownsRow base t 1 v (rs ++ rt).length ((rs ++ rt).map rowV) := by
  rw [List.length_append, List.map_append]; exact h
theorem stPush_none (n p : Nat) (pre : Int) (h : 0 < n) : stPush n p pre stNone [] = stNone := by
  show (⟨0 + 0, lastOf 0 [], restF n p ([] ++ flatFrom pre 0 [])⟩ : StD) = ⟨0, 0, []⟩
  simp [restF, flatFrom, lastOf]
end Go.Proofs.YtbkdgpeooeokmaaDoor
