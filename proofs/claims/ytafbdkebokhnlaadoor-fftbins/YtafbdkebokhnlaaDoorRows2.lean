/- A row of rows in a block of its own; lengths of samples that may be. -/
import Derived.Test.YtafbdkebokhnlaaDoorBase
namespace Go.Proofs.YtafbdkebokhnlaaDoor
open Go.RowKit
set_option linter.unusedVariables false

theorem neg_in (x : Int) : In64 (neg64 x) := in_w64 _
theorem ext_in (xs : List Int) (m : Int) (h : Small xs) : In64 (ext xs m) := by
  unfold ext; split
  · exact h.all _
  · exact neg_in _
theorem add2_small (xs ys : List Int) : Small (add2 xs ys) := small_mk _ _ fun _ _ => in_w64 _
theorem turn_small (xs : List Int) (k : Int) (h : Small xs) : Small (turnL xs k) := small_mk _ _ fun i _ => ext_in _ _ h
theorem less_len (xs ys : List Int) : (lessL xs ys).length = xs.length := add2_len _ _
theorem less_small (xs ys : List Int) : Small (lessL xs ys) := add2_small _ _
theorem alloc_below (w : World) (o : Obj) : Below w.heap.size w (w.alloc o) := (Below.refl _ w).alloc (Nat.le_refl _) o
theorem told_len {xs : List Int} {w w' : World} {e : Ending} (h : Told xs w e w') {n : Nat} (hn : xs.length = n) : ∃ a c, e = .returned (.slice a n c) ∧ Lies w' a xs ∧ Below w.heap.size w w' := by
  obtain ⟨a, l, c, rfl, h1, h2, h3⟩ := h
  exact ⟨a, c, by rw [← h1, hn], h2, h3⟩

abbrev nilR : Rr := (none, 0, [])
/-- A row of rows: a block of its own, that tells where each lies. -/
def RowsAt (w : World) (b : Nat) (rs : List Rr) : Prop := Cells w b (rs.map rowV) ∧ ∀ r ∈ rs, Lies w r.1 r.2.2
theorem RowsAt.below {w w' : World} {b : Nat} {rs : List Rr} (h : RowsAt w b rs) (hb : Below w.heap.size w w') : RowsAt w' b rs :=
  ⟨h.1.below hb, fun r hr => (h.2 r hr).below hb⟩
theorem getD_mem {rs : List Rr} {j : Nat} (hj : j < rs.length) : rs.getD j nilR ∈ rs := by
  rw [List.getD_eq_getElem?_getD, List.getElem?_eq_getElem hj]; simp
theorem RowsAt.lies {w : World} {b : Nat} {rs : List Rr} (h : RowsAt w b rs) (j : Nat) (hj : j < rs.length) : Lies w (rs.getD j nilR).1 (rs.getD j nilR).2.2 := h.2 _ (getD_mem hj)
theorem rows_at (rs : List Rr) (j : Nat) (hj : j < rs.length) : (rs.map rowV)[j]? = some (rowV (rs.getD j nilR)) := by
  simp [List.getD_eq_getElem?_getD, List.getElem?_eq_getElem hj]
theorem RowsAt.cell {w : World} {b : Nat} {rs : List Rr} (h : RowsAt w b rs) (j : Nat) (hj : j < rs.length) : w.cell? ⟨b, j, none⟩ = some (rowV (rs.getD j nilR)) :=
  h.1.cell j _ (rows_at rs j hj)
theorem RowsAt.liesR {w : World} {b : Nat} {rs : List Rr} (h : RowsAt w b rs) : LiesR w b rs := ⟨h.1.lt, fun j hj => ⟨h.cell j hj, h.lies j hj⟩⟩
theorem Cells.at {w : World} {c : Nat} {l : List Value} (h : Cells w c l) (i : Nat) : w.cell? ⟨c, i, none⟩ = l[i]? := by
  obtain ⟨t, h⟩ := h
  unfold World.cell?
  rw [h]
  simp
/-- A row of numbers lies in no block of rows. -/
theorem RowsAt.apart {w : World} {b : Nat} {rs : List Rr} (h : RowsAt w b rs) {a : Option Addr} {xs : List Int} (hl : Lies w a xs) : xs ≠ [] → ∀ p, a = some p → p.block ≠ b := by
  intro h0 p hp
  obtain ⟨g, o, rfl, hlt, hc⟩ := hl.some h0
  cases hp
  rintro rfl
  have h1 := hc 0 (by cases xs with | nil => exact absurd rfl h0 | cons => simp)
  rw [h.1.at] at h1
  obtain ⟨r, _, hr⟩ := List.mem_map.1 (List.mem_of_getElem? h1)
  cases hr
theorem RowsAt.other {w : World} {b : Nat} {rs : List Rr} (h : RowsAt w b rs) {a : Option Addr} {xs : List Int} (hl : Lies w a xs) (j : Nat) (u : Value) : Lies (w.setCell ⟨b, j, none⟩ u) a xs :=
  hl.only ((Only.refl b w).setCell rfl u) (h.apart hl)
theorem RowsAt.set {w : World} {b : Nat} {rs : List Rr} (h : RowsAt w b rs) (j : Nat) (r : Rr) (hl : Lies w r.1 r.2.2) : RowsAt (w.setCell ⟨b, j, none⟩ (rowV r)) b (rs.set j r) := by
  refine ⟨?_, fun x hx => ?_⟩
  · have := h.1.set j (rowV r)
    rw [← List.map_set] at this
    exact this
  · rcases List.mem_or_eq_of_mem_set hx with hx | rfl
    · exact h.other (h.2 x hx) j _
    · exact h.other hl j _
theorem getDR_set (rs : List Rr) (j i : Nat) (r : Rr) : (rs.set j r).getD i nilR = if j = i ∧ i < rs.length then r else rs.getD i nilR := by
  simp only [List.getD_eq_getElem?_getD, List.getElem?_set]
  by_cases c : j = i
  · subst c
    by_cases d : j < rs.length
    · simp [d]
    · simp [d]
  · simp [c]
theorem rows_nil (n i : Nat) : (List.replicate n nilR).getD i nilR = nilR := by
  rw [List.getD_eq_getElem?_getD, List.getElem?_replicate]; split <;> rfl

theorem Tryd.info22 : (Tryd.prog.info? 22).map (fun i => (i.zero, i.size, i.bytes)) = some (some (.slice none 0 0), 1, 24) := by kernel_rfl
theorem own_cells_of {w : World} {base n g e : Nat} {xs : List Value} (h : w.ownsRow base e 1 (.slice (some ⟨g, 0, none⟩) n n) n xs) : Cells w g xs := by
  rcases h.2 with ⟨h', _⟩ | ⟨g', cap, cur, h1, h2, h3, h4, h5, h6, h7⟩
  · cases h'
  · cases h1
    refine ⟨e, ?_⟩
    rw [h3, ← h7, List.take_of_length_le (by simp [h6])]
theorem rows_zero (n : Nat) : (madeCells #[.slice none 0 0] n).toList = (List.replicate n nilR).map rowV := by
  rw [toList_madeCells_one]
  simp [rowV]
theorem rows_made {w : World} {base n g : Nat} (h : w.ownsRow base 22 1 (.slice (some ⟨g, 0, none⟩) n n) n ((List.replicate n nilR).map rowV)) : RowsAt w g (List.replicate n nilR) :=
  ⟨own_cells_of h, fun r hr => by obtain rfl := List.eq_of_mem_replicate hr; exact .inl rfl⟩

/-- A length of samples may be. -/
def mayF (n : Nat) : Prop := n = 2 ∨ n = 4 ∨ n = 8 ∨ n = 16 ∨ n = 32 ∨ n = 64
instance (n : Nat) : Decidable (mayF n) := by unfold mayF; infer_instance
theorem mayF_half {n : Nat} (h : mayF n) : ∃ h, mayN h ∧ n = 2 * h := by
  rcases h with rfl | rfl | rfl | rfl | rfl | rfl
  · exact ⟨1, by decide, rfl⟩
  · exact ⟨2, by decide, rfl⟩
  · exact ⟨4, by decide, rfl⟩
  · exact ⟨8, by decide, rfl⟩
  · exact ⟨16, by decide, rfl⟩
  · exact ⟨32, by decide, rfl⟩
theorem mayF_of {h : Nat} (hm : mayN h) : mayF (2 * h) := by unfold mayN at hm; unfold mayF; omega
theorem mayF_le {n : Nat} (h : mayF n) : n ≤ 64 := by unfold mayF at h; omega
theorem mayN_pos {h : Nat} (hm : mayN h) : 0 < h ∧ h ≤ 32 := by unfold mayN at hm; omega

theorem fmay_yes (n : Nat) (w : World) (h : mayF n) : Calls Tryd.prog 21 #[.int .i64 (n : Int)] w fun e w' => e = .returned (.bool true) ∧ w' = w := by
  rcases h with rfl | rfl | rfl | rfl | rfl | rfl
  all_goals
    go_enter Tryd.func21, Tryd.ntmps21
    go_wp2
    go_ret
    exact ⟨rfl, rfl⟩
theorem fmay_no (n : Nat) (w : World) (h : ¬ mayF n) : Calls Tryd.prog 21 #[.int .i64 (n : Int)] w fun e w' => e = .returned (.bool false) ∧ w' = w := by
  unfold mayF at h
  have h1 : ((n : Int) == 2) = false := by simp; omega
  have h2 : ((n : Int) == 4) = false := by simp; omega
  have h3 : ((n : Int) == 8) = false := by simp; omega
  have h4 : ((n : Int) == 16) = false := by simp; omega
  have h5 : ((n : Int) == 32) = false := by simp; omega
  have h6 : ((n : Int) == 64) = false := by simp; omega
  clear h
  go_enter Tryd.func21, Tryd.ntmps21
  go_wp2
  go_ret
  exact ⟨rfl, rfl⟩

/-- A sample alone, as a spin. -/
theorem alone_any (x : Int) (n h : Nat) (w : World) (hn : n = 2 * h) (h0 : 0 < h) (hm : h ≤ 1000) :
    Calls Tryd.prog 23 #[.int .i64 x, .int .i64 (n : Int)] w fun e w' => ∃ g, e = .returned (.slice (some ⟨g, 0, none⟩) h h) ∧ w.heap.size ≤ g ∧ Cells w' g (ints (oneL h x)) ∧ Below w.heap.size w w' := by
  obtain ⟨i0, hi, hz0, hz1, hz2⟩ := info_parts Tryd.info3
  have HD := hide (show wrap64 ((n : Int) / 2) = (h : Int) by rw [show (n : Int) / 2 = (h : Int) by omega]; exact w64_in ⟨by omega, by omega⟩)
  clear hn
  go_enter Tryd.func23, Tryd.ntmps23
  go_wp2_with (at_make; rw [unhide HD]; refine wpList_make_full _ rfl _ _ 22 rfl w.heap.size 3 i0 (.int .i64 0) 1 Tryd.underlying22 hi hz0 hz1 _ _ _ _ h rfl rfl rfl rfl ?m1 ?m2 ?m3 ?_)
  case m1 => rw [hz2]; omega
  case m2 => unfold maxLen; omega
  case m3 => exact Nat.le_refl _
  intro w1 hown hgr
  rw [ints_zero] at hown
  have HO := hide (own_cells hown)
  have HB := hide ((Below.refl w.heap.size w).grown hgr (Nat.le_refl _) (fun _ h => by cases h))
  have hcell := (unhide HO).cell 0 _ (ints_at _ 0 (by simpa using h0))
  have hfree := (unhide HO).free 0
  clear hown hgr
  go_wp2
  go_ret
  refine ⟨_, rfl, Nat.le_refl _, ?_, (unhide HB).setCell (Nat.le_refl _) _⟩
  have := (unhide HO).set 0 (.int .i64 x)
  rw [ints_set, oneL_set h x h0] at this
  exact this
end Go.Proofs.YtafbdkebokhnlaaDoor
