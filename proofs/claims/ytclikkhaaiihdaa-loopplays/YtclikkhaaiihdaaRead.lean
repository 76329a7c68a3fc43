/- Contracts of read, Get of a loop. -/
import Derived.Test.YtclikkhaaiihdaaLoop
namespace Go.Proofs.Ytclikkhaaiihdaa
open Go.RowKit
set_option linter.unusedVariables false

/-- A made row of n noughts whose first j words are those of L from k on. -/
def fillL (L : List Int) (k n j : Nat) : List Int := (List.range n).map fun t => if t < j then L.getD (k + t) 0 else 0
/-- n words of L from k on. -/
def rowL (L : List Int) (k n : Nat) : List Int := (List.range n).map fun t => L.getD (k + t) 0
theorem fill_len (L : List Int) (k n j : Nat) : (fillL L k n j).length = n := by simp [fillL]
theorem row_len (L : List Int) (k n : Nat) : (rowL L k n).length = n := by simp [rowL]
theorem fill_none (L : List Int) (k n : Nat) : fillL L k n 0 = List.replicate n 0 := by
  apply List.ext_getElem
  · simp [fillL]
  · intro i h1 h2; simp [fillL]
theorem fill_all (L : List Int) (k n : Nat) : fillL L k n n = rowL L k n := by
  apply List.ext_getElem
  · simp [fillL, rowL]
  · intro i h1 h2
    simp [fillL] at h1
    simp [fillL, rowL, h1]
theorem fill_set (L : List Int) (k n j : Nat) : (fillL L k n j).set j (L.getD (k + j) 0) = fillL L k n (j + 1) := by
  apply List.ext_getElem
  · simp [fillL]
  · intro i h1 h2
    simp only [List.getElem_set]
    by_cases h : j = i
    · subst h; simp [fillL]
    · rw [if_neg h]
      simp only [fillL, List.getElem_map, List.getElem_range]
      by_cases h3 : i < j
      · rw [if_pos h3, if_pos (by omega)]
      · rw [if_neg h3, if_neg (by omega)]

theorem pget_at (b c g o m n k : Nat) (i : Int) (L : List Int) (e : Int) (w : World) (hi : i = (k : Int)) (h : Pt b c g o m w) (ha : Ar c g n w L e) (hm : o + m ≤ n) (hk : k < m) :
    Calls Try.prog 42 #[.pointer (some ⟨b, 0, none⟩), .int .i64 i] w fun r w' => r = .returned (.int .i64 (L.getD (o + k) 0)) ∧ ∃ n, w' = w.drewN n := by
  rw [hi]; exact pget_in b c g o m n k L e w h ha hm hk
set_option maxHeartbeats 2000000 in
theorem read_any (l b c g o m n R : Nat) (wd cnt k : Int) (L : List Int) (w : World) (h : Lo l b c g o m wd R cnt w) (ha : Ar c g n w L 0) (hm : o + m ≤ n) (h0 : 0 ≤ k) (h1 : k ≤ 9223372036854775807) :
    Calls Try.prog 33 #[.pointer (some ⟨l, 0, none⟩), .int .u64 k] w fun r w' => ∃ q, r = .returned (.slice (some ⟨q, 0, none⟩) wd.toNat wd.toNat) ∧ w.heap.size ≤ q ∧ Cells w' q (ints (rowL L (o + (atI k R wd).toNat) wd.toNat)) ∧ Below w.heap.size w w' := by
  obtain ⟨i0, hi, hz0, hz1, hz2⟩ := info_parts Try.info3
  have c1 := h.me.cell 1 _ rfl
  have H := hide h
  have HA := hide ha
  obtain ⟨hb1, hb2⟩ := at_bd k m R wd h.pos h.room h.has
  have hmm := h.most
  have hp := h.pos
  have HPl := hide (place_any l b c g o m R wd cnt k w h h0 h1)
  obtain ⟨d, rfl⟩ : ∃ d : Nat, wd = (d : Int) := ⟨wd.toNat, by omega⟩
  obtain ⟨a, hat⟩ : ∃ a : Nat, atI k R (d : Int) = (a : Int) := ⟨(atI k R (d : Int)).toNat, by omega⟩
  rw [hat] at hb1 hb2 HPl ⊢
  rw [Int.toNat_natCast, Int.toNat_natCast]
  clear h ha hat
  go_enter Try.func33, Try.ntmps33
  go_wp2_with fail
  refine (unhide HPl).mono ?_
  rintro e' w1 ⟨rfl, nq, rfl⟩
  go_wp2_with (at_make; refine wpList_make_full _ rfl _ _ 34 rfl w.heap.size 3 i0 (.int .i64 0) 1 Try.underlying34 hi hz0 hz1 _ _ _ _ d rfl rfl rfl rfl ?m1 ?m2 ?m3 ?_)
  case m1 => rw [hz2]; omega
  case m2 => unfold maxLen; omega
  case m3 => exact Nat.le_refl _
  intro w2 hown hgr
  rw [ints_zero, ← fill_none L (o + a) d] at hown
  have HO := hide (own_cells hown)
  have HB := hide (below_trans (below_drewN w nq) ((Below.refl w.heap.size (w.drewN nq)).grown hgr (Nat.le_refl _) (fun _ h => by cases h)))
  clear hown hgr c1
  go_wp2
  go_loopw [18, 7] (fun iv _ wr => ∃ j : Nat, j ≤ d ∧ iv = .int .i64 (j : Int) ∧ Hid (Cells wr w.heap.size (ints (fillL L (o + a) d j))) ∧ Hid (Below w.heap.size w wr)) (fun iv _ _ => d - (intOf iv).toNat)
  case atStart => exact ⟨0, by omega, rfl, HO, HB⟩
  case round =>
    obtain ⟨j, hj, rfl, HOr, HBr⟩ := hrel
    by_cases hlt : j < d
    · have HLr := hide ((unhide H).below (unhide HBr))
      have HAr := hide ((unhide HA).below (unhide HBr))
      have d0 := (unhide HLr).me.cell 0 _ rfl
      have hcell := (unhide HOr).cell j _ (ints_at _ j (by rw [fill_len]; exact hlt))
      have hfree := (unhide HOr).free j
      obtain ⟨z, hz⟩ : ∃ z, (fillL L (o + a) d j).getD j 0 = z := ⟨_, rfl⟩
      rw [hz] at hcell
      clear hz HO HB
      go_wp2_with fail
      refine (pget_at b c g o m n (a + j) _ L 0 _ (by omega) (unhide HLr).pt (unhide HAr) hm (by omega)).mono ?_
      rintro e' w3 ⟨rfl, n3, rfl⟩
      obtain ⟨y, hy⟩ : ∃ y, L.getD (o + (a + j)) 0 = y := ⟨_, rfl⟩
      rw [hy]
      have HY := hide hy
      clear hy
      go_wp2
      go_roundw
      case rel =>
        refine ⟨j + 1, by omega, by simp, ?_, ?_⟩
        · have := ((unhide HOr).drewN (n := n3)).set j (.int .i64 y)
          have hs := fill_set L (o + a) d j
          rw [Nat.add_assoc, unhide HY] at hs
          rw [ints_set, hs] at this
          exact this
        · exact ((below_trans (unhide HBr) (below_drewN _ _))).setCell (Nat.le_refl _) _
      case measure => simp [intOf]; omega
    · obtain rfl : j = d := by omega
      go_wp2
      go_ret
      rw [fill_all] at HOr
      exact ⟨_, rfl, Nat.le_refl _, unhide HOr, unhide HBr⟩
set_option maxHeartbeats 1000000 in
theorem lget_yes (l b c g o m n R : Nat) (wd cnt t : Int) (L : List Int) (w : World) (h : Lo l b c g o m wd R cnt w) (ha : Ar c g n w L 0) (hm : o + m ≤ n) (h0 : 0 ≤ cnt) (h1 : cnt ≤ 9223372036854775807) (ht : hasI cnt R t) :
    Calls Try.prog 13 #[.pointer (some ⟨l, 0, none⟩), .int .i64 t] w fun r w' => ∃ q, r = .returned (.tuple #[.slice (some ⟨q, 0, none⟩) wd.toNat wd.toNat, .bool true]) ∧ w.heap.size ≤ q ∧ Cells w' q (ints (rowL L (o + (atI t R wd).toNat) wd.toNat)) ∧ Below w.heap.size w w' := by
  have H := hide h
  have HA := hide ha
  have hb := old_bd cnt R h0
  have ht0 : 0 ≤ t := by have := ht.1; omega
  have ht1 : t ≤ 9223372036854775807 := by have := ht.2; omega
  have HH := hide (lhas_any l b c g o m R wd cnt t w h h0 h1 ⟨by omega, ht1⟩)
  rw [decide_eq_true ht] at HH
  clear h ha ht hb
  go_enter Try.func13, Try.ntmps13
  go_wp2_with fail
  refine (own_any _ _).mono ?_
  rintro e' w' ⟨rfl, rfl⟩
  go_wp2_with fail
  refine (unhide HH).mono ?_
  rintro e' w1 ⟨rfl, n1, rfl⟩
  go_wp2_with fail
  refine (read_any l b c g o m n R wd cnt t L _ ((unhide H).below (below_drewN _ _)) ((unhide HA).below (below_drewN _ _)) hm ht0 ht1).mono ?_
  rintro e' w2 ⟨q, rfl, hq, hc, hbl⟩
  have HC := hide hc
  have HB := hide hbl
  have HQ := hide hq
  clear hc hbl hq
  go_wp2
  go_ret2
  exact ⟨q, rfl, unhide HQ, unhide HC, below_trans (below_drewN _ _) (unhide HB)⟩
set_option maxHeartbeats 1000000 in
theorem lget_no (l b c g o m R : Nat) (wd cnt t : Int) (w : World) (h : Lo l b c g o m wd R cnt w) (h0 : 0 ≤ cnt) (h1 : cnt ≤ 9223372036854775807) (ht1 : In64 t) (ht : ¬ hasI cnt R t) :
    Calls Try.prog 13 #[.pointer (some ⟨l, 0, none⟩), .int .i64 t] w fun r w' => r = .returned (.tuple #[.slice none 0 0, .bool false]) ∧ ∃ n, w' = w.drewN n := by
  have HH := hide (lhas_any l b c g o m R wd cnt t w h h0 h1 ht1)
  rw [decide_eq_false ht] at HH
  clear h ht
  go_enter Try.func13, Try.ntmps13
  go_wp2_with fail
  refine (own_any _ _).mono ?_
  rintro e' w' ⟨rfl, rfl⟩
  go_wp2_with fail
  refine (unhide HH).mono ?_
  rintro e' w1 ⟨rfl, n1, rfl⟩
  go_wp2
  go_ret2
  exact ⟨rfl, _, rfl⟩
end Go.Proofs.Ytclikkhaaiihdaa
