/- spin.Add, Less: what they answer. -/
import Derived.Test.YtcnpbkgnoeoccaaDoorTurn
namespace Go.Proofs.YtcnpbkgnoeoccaaDoor
open Go.RowKit
set_option linter.unusedVariables false

/-- A row of rows: where each lies, how much room it has, its numbers. -/
abbrev Rr := Option Addr × Nat × List Int
def rowV (r : Rr) : Value := .slice r.1 r.2.2.length r.2.1
def LiesR (w : World) (b : Nat) (rs : List Rr) : Prop := b < w.heap.size ∧ ∀ j, j < rs.length → w.cell? ⟨b, j, none⟩ = some (rowV (rs.getD j (none, 0, []))) ∧ Lies w (rs.getD j (none, 0, [])).1 (rs.getD j (none, 0, [])).2.2
theorem LiesR.below {w w' : World} {b : Nat} {rs : List Rr} (h : LiesR w b rs) (hb : Below w.heap.size w w') : LiesR w' b rs :=
  ⟨Nat.lt_of_lt_of_le h.1 hb.size, fun j hj => ⟨by rw [hb.cell (p := ⟨b, j, none⟩) h.1]; exact (h.2 j hj).1, (h.2 j hj).2.below hb⟩⟩

/-- The sum of rows up to number j of the one behind the first. -/
def upTo (acc row : List Int) (j : Nat) : List Int := mkL acc.length fun i => if i < j then wrap64 (acc.getD i 0 + row.getD i 0) else acc.getD i 0
theorem upTo_zero (acc row : List Int) : upTo acc row 0 = acc := mkL_eq _ _ _ rfl fun i _ => by rw [if_neg (by omega)]
theorem upTo_all (acc row : List Int) (n : Nat) (h : acc.length = n) : upTo acc row n = add2 acc row := by
  unfold upTo add2; rw [h]; exact mkL_congr _ _ _ fun i hi => by rw [if_pos hi]
theorem upTo_len (acc row : List Int) (j : Nat) : (upTo acc row j).length = acc.length := mkL_len _ _
theorem upTo_at (acc row : List Int) (j : Nat) (h : j < acc.length) : (upTo acc row j).getD j 0 = acc.getD j 0 := by
  unfold upTo; rw [mkL_at _ _ _ h, if_neg (by omega)]
theorem upTo_set (acc row : List Int) (j : Nat) (h : j < acc.length) : (upTo acc row j).set j (wrap64 (acc.getD j 0 + row.getD j 0)) = upTo acc row (j + 1) := by
  refine list_same (by rw [List.length_set, upTo_len, upTo_len]) fun i hi => ?_
  rw [List.length_set, upTo_len] at hi
  rw [getD_set, upTo_len]
  by_cases c : j = i
  · subst c; rw [if_pos ⟨rfl, h⟩]; unfold upTo; rw [mkL_at _ _ _ h, if_pos (by omega)]
  · rw [if_neg (fun h => c h.1)]; unfold upTo; rw [mkL_at _ _ _ hi, mkL_at _ _ _ hi]
    by_cases d : i < j
    · rw [if_pos d, if_pos (by omega)]
    · rw [if_neg d, if_neg (by omega)]

def conts (rs : List Rr) : List (List Int) := rs.map (·.2.2)
/-- The numbers of a sum: none, if the rows' sizes differ. -/
def sumR (rs : List Rr) : List Int := if ∀ r ∈ rs, r.2.2.length = (rs.getD 0 (none, 0, [])).2.2.length then addAll (rs.getD 0 (none, 0, [])).2.2.length (conts rs) else []

set_option maxRecDepth 100000 in
theorem sum_some (b m cap : Nat) (rs : List Rr) (n : Nat) (w : World) (hl : LiesR w b rs) (hm : rs.length = m) (h0 : 0 < m) (hmx : m ≤ 1000000) (hn : (rs.getD 0 (none, 0, [])).2.2.length = n) (hnx : n ≤ 1000000) :
    Calls Tryd.prog 27 #[.slice (some ⟨b, 0, none⟩) m cap] w fun e w' => ∃ a l c, e = .returned (.slice a l c) ∧ (sumR rs).length = l ∧ Lies w' a (sumR rs) ∧ Below w.heap.size w w' := by
  obtain ⟨i0, hi, hz0, hz1, hz2⟩ := info_parts Tryd.info3
  have HL := hide hl
  have HM := hide hm
  have HN := hide hn
  have c0 : w.cell? ⟨b, 0, none⟩ = some (.slice (rs.getD 0 (none, 0, [])).1 n (rs.getD 0 (none, 0, [])).2.1) := by rw [← hn]; exact (hl.2 0 (by omega)).1
  generalize (rs.getD 0 (none, 0, [])).1 = a0 at c0
  generalize (rs.getD 0 (none, 0, [])).2.1 = cap0 at c0
  clear hl hm hn
  go_enter Tryd.func27, Tryd.ntmps27
  go_wp2_with (at_make; refine wpList_make_full _ rfl _ _ 22 rfl w.heap.size 3 i0 (.int .i64 0) 1 Tryd.underlying22 hi hz0 hz1 _ _ _ _ n rfl rfl rfl rfl ?m1 ?m2 ?m3 ?_)
  case m1 => rw [hz2]; omega
  case m2 => unfold maxLen; omega
  case m3 => exact Nat.le_refl _
  intro w1 hown hgr
  rw [ints_zero] at hown
  have HO := hide (own_cells hown)
  have HB := hide ((Below.refl w.heap.size w).grown hgr (Nat.le_refl _) (fun _ h => by cases h))
  clear hown hgr
  go_wp2
  clear c0
  go_loopw [18] (fun i wr => ∃ (k : Nat), k ≤ m ∧ i = .int .i64 (k : Int) ∧ Hid (∀ j, j < k → (rs.getD j (none, 0, [])).2.2.length = n) ∧ Hid (Cells wr w.heap.size (ints (addAll n ((conts rs).take k)))) ∧ Hid (Below w.heap.size w wr))
    (fun i _ => m - (intOf i).toNat)
  case atStart => exact ⟨0, by omega, rfl, fun j h => absurd h (Nat.not_lt_zero _), HO, HB⟩
  case round =>
    obtain ⟨k, hk, rfl, HGr, HOr, HBr⟩ := hrel
    by_cases hlt : k < m
    · obtain ⟨ck, hlk⟩ := ((unhide HL).2 k (by rw [unhide HM]; exact hlt))
      have cx : wr.cell? ⟨b, k, none⟩ = some (rowV (rs.getD k (none, 0, []))) := by rw [(unhide HBr).cell (p := ⟨b, _, none⟩) (unhide HL).1]; exact ck
      unfold rowV at cx
      obtain ⟨ak, ek⟩ : ∃ x, (rs.getD k (none, 0, [])).1 = x := ⟨_, rfl⟩
      obtain ⟨row, er⟩ : ∃ x, (rs.getD k (none, 0, [])).2.2 = x := ⟨_, rfl⟩
      obtain ⟨l, el⟩ : ∃ x, row.length = x := ⟨_, rfl⟩
      rw [ek, er] at hlk
      rw [ek, er, el] at cx
      generalize (rs.getD k (none, 0, [])).2.1 = ckp at cx
      have HLk := hide hlk
      have HEr := hide er
      have HEl := hide el
      clear ck hlk ek er el HO HB
      by_cases c : l = n
      · subst c
        go_wp2
        obtain ⟨wo, rfl⟩ : ∃ wo, wo = wr := ⟨_, rfl⟩
        obtain ⟨acc, hacc⟩ : ∃ x, addAll l ((conts rs).take k) = x := ⟨_, rfl⟩
        have HAL := hide (show acc.length = l by rw [← hacc]; exact addAll_len _ _)
        rw [hacc] at HOr
        have HAC := hide hacc
        clear hacc cx
        go_loopw [29] (fun i wr => ∃ (j : Nat), j ≤ l ∧ i = .int .i64 (j : Int) ∧ Hid (Cells wr w.heap.size (ints (upTo acc row j))) ∧ Hid (Below w.heap.size w wr))
          (fun i _ => l - (intOf i).toNat)
        case atStart => exact ⟨0, by omega, rfl, by rw [upTo_zero]; exact HOr, HBr⟩
        case round =>
          obtain ⟨j, hj, rfl, HOj, HBj⟩ := hrel
          by_cases hjl : j < l
          · obtain ⟨bk, ok, rfl, hltk, hck⟩ := (unhide HLk).some (by intro h; have := unhide HEl; subst h; simp at this; omega)
            have cy : wr.cell? ⟨bk, ok + j, none⟩ = some (.int .i64 (row.getD j 0)) := by rw [(unhide HBj).cell (p := ⟨bk, _, none⟩) hltk]; exact hck j (by rw [unhide HEl]; exact hjl)
            have cz : wr.cell? ⟨w.heap.size, j, none⟩ = some (.int .i64 (acc.getD j 0)) := by rw [← upTo_at acc row j (by rw [unhide HAL]; exact hjl)]; exact (unhide HOj).cell j _ (ints_at _ j (by rw [upTo_len, unhide HAL]; exact hjl))
            have hfree := (unhide HOj).free j
            have HSet := hide (upTo_set acc row j (by rw [unhide HAL]; exact hjl))
            generalize row.getD j 0 = y at cy HSet
            generalize acc.getD j 0 = z at cz HSet
            clear hck HOr HBr
            go_wp2
            go_roundw
            case rel =>
              refine ⟨j + 1, by omega, by simp, ?_, (unhide HBj).setCell (Nat.le_refl _) _⟩
              have := (unhide HOj).set j (.int .i64 (wrap64 (z + y)))
              rw [ints_set, unhide HSet] at this
              exact this
            case measure => simp [intOf]; omega
          · obtain rfl : j = l := by omega
            rw [upTo_all acc row j (unhide HAL)] at HOj
            go_wp2
            go_roundw
            case rel =>
              refine ⟨k + 1, by omega, by simp, ?_, ?_, HBj⟩
              · intro i hi
                by_cases c : i = k
                · subst c; rw [unhide HEr]; exact unhide HEl
                · exact unhide HGr i (by omega)
              · rw [addAll_succ _ _ _ (by unfold conts; rw [List.length_map, unhide HM]; exact hlt), unhide HAC]
                have : (conts rs).getD k [] = row := by
                  have hkk : k < rs.length := by rw [unhide HM]; exact hlt
                  rw [← unhide HEr]; unfold conts
                  simp [List.getD_eq_getElem?_getD, List.getElem?_eq_getElem hkk]
                rw [this]; exact HOj
            case measure => simp [intOf]; omega
      · have hne : ¬ (l : Int) = (n : Int) := by omega
        have hne2 : ((l : Int) != (n : Int)) = true := by simp; omega
        go_wp2
        go_ret
        have hno : sumR rs = [] := by
          unfold sumR
          rw [if_neg]
          intro h
          have hkk : k < rs.length := by rw [unhide HM]; exact hlt
          have := h _ (List.getElem_mem hkk)
          rw [unhide HN] at this
          have e : rs[k] = rs.getD k (none, 0, []) := by simp [List.getD_eq_getElem?_getD, List.getElem?_eq_getElem hkk]
          rw [e, unhide HEr, unhide HEl] at this
          exact c this
        rw [hno]
        exact ⟨none, 0, 0, rfl, rfl, .inl rfl, unhide HBr⟩
    · obtain rfl : k = m := by omega
      go_wp2
      go_ret
      have hyes : sumR rs = addAll n (conts rs) := by
        unfold sumR
        rw [unhide HN, if_pos]
        intro r hr
        obtain ⟨i, hi, rfl⟩ := List.getElem_of_mem hr
        have := unhide HGr i (by rw [← unhide HM]; exact hi)
        simpa [List.getD_eq_getElem?_getD, List.getElem?_eq_getElem hi] using this
      rw [List.take_of_length_le (by unfold conts; rw [List.length_map, unhide HM]; exact Nat.le_refl _)] at HOr
      rw [hyes]
      exact ⟨_, n, n, rfl, addAll_len _ _, (unhide HOr).lies, unhide HBr⟩
end Go.Proofs.YtcnpbkgnoeoccaaDoor
