/- Two rows as one. -/
import Derived.Test.YtbkdgpeooeokmaaDoorFrontLeaf
namespace Go.Proofs.YtbkdgpeooeokmaaDoor
open Go.RowKit
set_option linter.unusedVariables false

set_option maxRecDepth 100000 in
theorem grow_nil (n : Nat) (w : World) (hn : n ≤ 1000000) :
    Calls Tryd.prog 37 #[.slice none 0 0, .int .i64 (n : Int)] w fun e w' => ∃ v, e = .returned v ∧ w'.ownsRow w.heap.size 3 1 v 0 (ints []) ∧ Below w.heap.size w w' := by
  obtain ⟨i0, hi, hz0, hz1, hz2⟩ := info_parts Tryd.info3
  by_cases h0 : n = 0
  · subst h0
    go_enter Tryd.func37, Tryd.ntmps37
    go_wp2
    go_ret
    exact ⟨_, rfl, World.ownsRow_nil _ _ _ _, Below.refl _ _⟩
  · have hpos : 0 < (n : Int) := by omega
    have hge : ¬ (n : Int) < 0 := by omega
    have hge0 := grownCap_ge w n 0 3
    have hcm := grownCap_le_maxLen w n 0 3 (by unfold maxLen; omega)
    obtain ⟨G, hG⟩ : ∃ G, grownCap w n 0 3 = G := ⟨_, rfl⟩
    have hr := Lib.run_append_nil_zeros (P := Tryd.prog) w 24 3 24 3 i0 (.int .i64 0) .i64 .i64 Tryd.underlying24 Tryd.underlying3 hi hz0 n (by omega) (by omega) (by omega) (by rw [hz2]; omega)
    rw [hG] at hr hge0 hcm
    obtain ⟨W1, hW1⟩ : ∃ W1, w.drew.alloc (.cells (Builtin.zeroCells (Value.cells (.int .i64 0)) n ++ Builtin.zeroCells (Value.cells (.int .i64 0)) (G - n)) 3) = W1 := ⟨_, rfl⟩
    rw [hW1] at hr
    have HO := hide (show W1.ownsRow w.heap.size 3 1 (.slice (some ⟨w.heap.size, 0, none⟩) 0 G) 0 (ints []) by
      rw [← hW1]
      exact World.ownsRow_made w.drew _ G (Nat.le_refl _) hcm (by simp [size_zeroCells, Value.cells]; omega))
    have HB := hide (show Below w.heap.size w W1 by rw [← hW1]; exact (Below.refl w.heap.size w).drew.alloc (Nat.le_refl _) _)
    clear hW1 hG
    go_enter Tryd.func37, Tryd.ntmps37
    go_wp2_with (at_builtin; (refine Lib.wpList_append_run _ rfl _ _ _ _ rfl _ _ rfl rfl _ _ hr ?_))
    go_wp2
    go_ret
    exact ⟨_, rfl, unhide HO, unhide HB⟩

/-- How many numbers the first k of two rows are, and which. -/
def catN (n1 n2 k : Nat) : Nat := if k = 0 then 0 else if k = 1 then n1 else n1 + n2
def catL (X Y : List Int) (k : Nat) : List Int := if k = 0 then [] else if k = 1 then X else X ++ Y

set_option maxRecDepth 100000 in
theorem concat_two (b : Nat) (a1 a2 : Option Addr) (n1 c1 n2 c2 : Nat) (X Y : List Int) (w : World) (h0 : w.cell? ⟨b, 0, none⟩ = some (.slice a1 n1 c1)) (h1 : w.cell? ⟨b, 1, none⟩ = some (.slice a2 n2 c2))
    (hX : Lies w a1 X) (hY : Lies w a2 Y) (hn1 : X.length = n1) (hn2 : Y.length = n2) (hm1 : n1 ≤ 100000) (hm2 : n2 ≤ 100000) (k1 : Slot a1 n1 c1) (k2 : Slot a2 n2 c2) :
    Calls Tryd.prog 26 #[.slice (some ⟨b, 0, none⟩) 2 2] w (OwnC (X ++ Y) w) := by
  obtain ⟨i0, hi, hz0, hz1, hz2⟩ := info_parts Tryd.info3
  have HX := hide hX
  have HY := hide hY
  have HN1 := hide hn1
  have HN2 := hide hn2
  have hb := lt_of_cell h0
  clear hX hY hn1 hn2
  go_enter Tryd.func26, Tryd.ntmps26
  go_wp2
  go_loopw [11, 3] (fun i v wr => ∃ k : Nat, k ≤ 2 ∧ i = .int .i64 (k : Int) ∧ v = .int .i64 (catN n1 n2 k : Nat) ∧ wr = w)
    (fun i _ _ => 2 - (intOf i).toNat)
  case atStart => exact ⟨0, by omega, rfl, rfl, rfl⟩
  case round =>
    obtain ⟨k, hk, rfl, rfl, rfl⟩ := hrel
    rcases (show k = 0 ∨ k = 1 ∨ k = 2 by omega) with rfl | rfl | rfl
    · simp only [catN, if_pos]
      go_wp2
      go_roundw
      case rel => exact ⟨1, by omega, by simp, by simp, trivial⟩
      case measure => simp [intOf]
    · simp only [catN, if_pos, if_neg (show ¬ (1 : Nat) = 0 by decide)]
      go_wp2
      go_roundw
      case rel => exact ⟨2, by omega, by simp, by simp, trivial⟩
      case measure => simp [intOf]
    · simp only [catN, if_neg (show ¬ (2 : Nat) = 0 by decide), if_neg (show ¬ (2 : Nat) = 1 by decide)]
      obtain ⟨w1, rfl⟩ : ∃ w1, w1 = wr := ⟨_, rfl⟩
      obtain ⟨N, hN⟩ : ∃ N, n1 + n2 = N := ⟨_, rfl⟩
      rw [hN]
      have hN2 : N ≤ 1000000 := by omega
      go_wp2_with fail
      refine (grow_nil N w1 hN2).mono ?_
      rintro e w2 ⟨v2, rfl, hown2, hb2⟩
      have HO2 := hide hown2
      have HB2 := hide hb2
      clear hown2 hb2
      go_wp2
      go_loopw [27, 6] (fun i v wr => ∃ k : Nat, k ≤ 2 ∧ i = .int .i64 (k : Int) ∧ Hid (wr.ownsRow w1.heap.size 3 1 v (catN n1 n2 k) (ints (catL X Y k))) ∧ Hid (Below w1.heap.size w1 wr))
        (fun i _ _ => 2 - (intOf i).toNat)
      case atStart => exact ⟨0, by omega, rfl, HO2, HB2⟩
      case round =>
        obtain ⟨k, hk, rfl, HOr, HBr⟩ := hrel
        rcases (show k = 0 ∨ k = 1 ∨ k = 2 by omega) with rfl | rfl | rfl
        · have g0 : wr.cell? ⟨b, 0, none⟩ = some (.slice a1 n1 c1) := ((unhide HBr).cell (p := ⟨b, 0, none⟩) hb).trans h0
          have hown := unhide HOr
          simp only [catN, catL, if_pos] at hown
          rcases k1 with ⟨rfl, rfl, rfl⟩ | ⟨ad, rfl⟩
          · obtain rfl : X = [] := List.length_eq_zero_iff.1 (unhide HN1)
            go_wp2_with (at_builtin; (refine wpList_append_own_none rfl _ _ 24 rfl w1.heap.size 3 i0 1 Tryd.underlying24 hi _ _ _ rfl hown rfl ?_))
            go_wp2
            go_roundw
            case rel => exact ⟨1, by omega, by simp, hide (by simpa [catN, catL] using hown), HBr⟩
            case measure => simp [intOf]
          · have HXr := hide ((unhide HX).below (unhide HBr))
            go_wp2_with (at_builtin; (refine wpList_append_own _ rfl _ _ 24 rfl w1.heap.size 3 i0 (.int .i64 0) 1 8 Tryd.underlying24 hi hz0 hz1 hz2 rfl (by decide) _ _ _ rfl hown ad n1 c1 (ints X) rfl ?d0 (front_news (unhide HXr)) ?d2 ?d3 ?d4 (unhide HBr).size ?_))
            case d0 => simp [ints, unhide HN1]
            case d2 => intro u hu; obtain ⟨z, _, rfl⟩ := List.mem_map.1 hu; rfl
            case d3 => unfold maxLen; omega
            case d4 => omega
            intro v3 w3 hown3 hg3 _
            have hgr : ∀ q, Value.ownBlock _ = some q → w1.heap.size ≤ q := fun q hq => (hown.lt q hq).1
            have HB3 := hide ((unhide HBr).grown hg3 (unhide HBr).size hgr)
            have HO3 := hide (show w3.ownsRow w1.heap.size 3 1 v3 (catN n1 n2 1) (ints (catL X Y 1)) by simpa [catN, catL, ints] using hown3)
            clear hown3 hg3 hgr hown
            go_wp2
            go_roundw
            case rel => exact ⟨1, by omega, by simp, HO3, HB3⟩
            case measure => simp [intOf]
        · have g1 : wr.cell? ⟨b, 1, none⟩ = some (.slice a2 n2 c2) := ((unhide HBr).cell (p := ⟨b, 1, none⟩) hb).trans h1
          have hown := unhide HOr
          simp only [catN, catL, if_pos, if_neg (show ¬ (1 : Nat) = 0 by decide)] at hown
          rcases k2 with ⟨rfl, rfl, rfl⟩ | ⟨ad, rfl⟩
          · obtain rfl : Y = [] := List.length_eq_zero_iff.1 (unhide HN2)
            go_wp2_with (at_builtin; (refine wpList_append_own_none rfl _ _ 24 rfl w1.heap.size 3 i0 1 Tryd.underlying24 hi _ _ _ rfl hown rfl ?_))
            go_wp2
            go_roundw
            case rel => exact ⟨2, by omega, by simp, hide (by simpa [catN, catL] using hown), HBr⟩
            case measure => simp [intOf]
          · have HYr := hide ((unhide HY).below (unhide HBr))
            go_wp2_with (at_builtin; (refine wpList_append_own _ rfl _ _ 24 rfl w1.heap.size 3 i0 (.int .i64 0) 1 8 Tryd.underlying24 hi hz0 hz1 hz2 rfl (by decide) _ _ _ rfl hown ad n2 c2 (ints Y) rfl ?d0 (front_news (unhide HYr)) ?d2 ?d3 ?d4 (unhide HBr).size ?_))
            case d0 => simp [ints, unhide HN2]
            case d2 => intro u hu; obtain ⟨z, _, rfl⟩ := List.mem_map.1 hu; rfl
            case d3 => unfold maxLen; omega
            case d4 => omega
            intro v3 w3 hown3 hg3 _
            have hgr : ∀ q, Value.ownBlock _ = some q → w1.heap.size ≤ q := fun q hq => (hown.lt q hq).1
            have HB3 := hide ((unhide HBr).grown hg3 (unhide HBr).size hgr)
            have HO3 := hide (show w3.ownsRow w1.heap.size 3 1 v3 (catN n1 n2 2) (ints (catL X Y 2)) by simpa [catN, catL, ints, hN] using hown3)
            clear hown3 hg3 hgr hown
            go_wp2
            go_roundw
            case rel => exact ⟨2, by omega, by simp, HO3, HB3⟩
            case measure => simp [intOf]
        · have hfin := hide (show wr.ownsRow w1.heap.size 3 1 u6 (X ++ Y).length (ints (X ++ Y)) by
            have := unhide HOr
            rw [List.length_append, unhide HN1, unhide HN2]
            simpa [catN, catL] using this)
          go_wp2
          go_ret
          exact ⟨_, rfl, unhide hfin, unhide HBr⟩
end Go.Proofs.YtbkdgpeooeokmaaDoor
