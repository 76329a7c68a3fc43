/- spin.Turn: what it answers. -/
import Derived.Test.YtcnpbkgnoeoccaaDoorMath
namespace Go.Proofs.YtcnpbkgnoeoccaaDoor
open Go.RowKit
set_option linter.unusedVariables false

theorem place_step (xs L : List Int) (n R j p : Nat) (v : Int) (hn : xs.length = n) (hl : L.length = n ∧ ∀ t, t < j → L.getD (plc n R t) 0 = vlu xs R t) (hj : j < n) (hR : R < 2 * n) (hp : plc n R j = p) (hv : vlu xs R j = v) :
    (L.set p v).length = n ∧ ∀ t, t < j + 1 → (L.set p v).getD (plc n R t) 0 = vlu xs R t := by
  refine ⟨by rw [List.length_set]; exact hl.1, fun t ht => ?_⟩
  rw [getD_set]
  by_cases c : t = j
  · subst c
    rw [if_pos ⟨hp.symm, by rw [hl.1]; exact plc_lt n R t hR hj⟩, hv]
  · rw [if_neg (by rw [← hp]; exact fun h => plc_ne n R j t hR hj (by omega) (Ne.symm c) h.1), hl.2 t (by omega)]
theorem place_end (xs L : List Int) (n R : Nat) (k : Int) (hn : xs.length = n) (hl : L.length = n ∧ ∀ t, t < n → L.getD (plc n R t) 0 = vlu xs R t) (hR : 0 < n → R < 2 * n) (hk : 0 < n → k % (2 * (n : Int)) = R) : L = turnL xs k := by
  by_cases h0 : 0 < n
  · exact placed xs L k n R hn (hk h0) (hR h0) hl.1 hl.2
  · have h1 : L = [] := List.length_eq_zero_iff.1 (by omega)
    have h2 : xs = [] := List.length_eq_zero_iff.1 (by omega)
    subst h1 h2; rfl

theorem new_one (w : World) (v : Value) (t : TypeId) : (w.alloc (.cells #[v] t)).heap[w.heap.size]? = some (.cells #[v] t (0, 0)) := by
  show (w.heap.push _)[w.heap.size]? = _
  simp
theorem goes_any (j R n : Nat) (b1 b2 : Nat) (w : World) (hj : j < n) (hR : R < 2 * n) (hn : n ≤ 1000000) (h1 : w.heap[b1]? = some (.cells #[.int .i64 (R : Int)] 3 (0, 0))) (h2 : w.heap[b2]? = some (.cells #[.int .i64 (2 * (n : Int))] 3 (0, 0))) :
    Calls Tryd.prog 26 #[.int .i64 (j : Int), .pointer (some ⟨b1, 0, none⟩), .pointer (some ⟨b2, 0, none⟩)] w fun e w' => e = .returned (.int .i64 (((j + R) % (2 * n) : Nat) : Int)) ∧ Below w.heap.size w w' := by
  have c1 := cell_of_one h1
  have c2 := cell_of_one h2
  have HV := hide (show remI ((j : Int) + R) (2 * (n : Int)) = (((j + R) % (2 * n) : Nat) : Int) by rw [remI_pos _ _ (by omega), Int.natCast_emod]; congr 1)
  go_enter Tryd.func26, Tryd.ntmps26
  go_wp2_with fail
  refine (parts_any ((j : Int) + R) (2 * (n : Int)) _ (by unfold In64; omega) (by unfold In64; omega)).mono ?_
  rintro e w1 ⟨rfl, hb⟩
  go_wp2
  go_ret
  exact ⟨ret_int (unhide HV), hb⟩

set_option maxRecDepth 100000 in
theorem moved_any (a : Option Addr) (cap : Nat) (xs : List Int) (n R b1 b2 : Nat) (k : Int) (w : World) (hl : Lies w a xs) (hs : Small xs) (hn : xs.length = n) (hR : 0 < n → R < 2 * n) (hm : n ≤ 1000000) (h1 : w.heap[b1]? = some (.cells #[.int .i64 (R : Int)] 3 (0, 0))) (h2 : w.heap[b2]? = some (.cells #[.int .i64 (2 * (n : Int))] 3 (0, 0))) (hk : 0 < n → k % (2 * (n : Int)) = R) :
    Calls Tryd.prog 25 #[.slice a n cap, .func (.func 26) #[] #[.pointer (some ⟨b1, 0, none⟩), .pointer (some ⟨b2, 0, none⟩)]] w fun e w' => ∃ g, e = .returned (.slice (some ⟨g, 0, none⟩) n n) ∧ w.heap.size ≤ g ∧ Cells w' g (ints (turnL xs k)) ∧ Below w.heap.size w w' := by
  obtain ⟨i0, hi, hz0, hz1, hz2⟩ := info_parts Tryd.info3
  have HL := hide hl
  have HN := hide hn
  have HS := hide hs
  have H1 := hide h1
  have H2 := hide h2
  have HK := hide hk
  have HR := hide hR
  clear hl hn hs h1 h2 hk hR
  go_enter Tryd.func25, Tryd.ntmps25
  go_wp2_with (at_make; refine wpList_make_full _ rfl _ _ 22 rfl w.heap.size 3 i0 (.int .i64 0) 1 Tryd.underlying22 hi hz0 hz1 _ _ _ _ n rfl rfl rfl rfl ?m1 ?m2 ?m3 ?_)
  case m1 => rw [hz2]; omega
  case m2 => unfold maxLen; omega
  case m3 => exact Nat.le_refl _
  intro w1 hown hgr
  rw [ints_zero] at hown
  have HO := hide (own_cells hown)
  have HB := hide ((Below.refl w.heap.size w).grown hgr (Nat.le_refl _) (fun _ h => by cases h))
  clear hown hgr
  go_wp2
  go_loopw [14] (fun i wr => ∃ (j : Nat) (L : List Int), j ≤ n ∧ i = .int .i64 (j : Int) ∧ Hid (Cells wr w.heap.size (ints L)) ∧ Hid (L.length = n ∧ ∀ t, t < j → L.getD (plc n R t) 0 = vlu xs R t) ∧ Hid (Below w.heap.size w wr))
    (fun i _ => n - (intOf i).toNat)
  case atStart => exact ⟨0, List.replicate n 0, by omega, rfl, HO, ⟨by simp, fun t h => absurd h (Nat.not_lt_zero _)⟩, HB⟩
  case round =>
    obtain ⟨j, L, hj, rfl, HOr, HLr, HBr⟩ := hrel
    by_cases hlt : j < n
    · have hR2 := unhide HR (by omega)
      obtain ⟨ba, oa, rfl, hlta, hca⟩ := (unhide HL).some (by intro h; have := unhide HN; subst h; simp at this; omega)
      have cx : wr.cell? ⟨ba, oa + j, none⟩ = some (.int .i64 (xs.getD j 0)) := by rw [(unhide HBr).cell (p := ⟨ba, _, none⟩) hlta]; exact hca j (by rw [unhide HN]; exact hlt)
      have hx := (unhide HS).all j
      obtain ⟨x, hxx⟩ : ∃ x, xs.getD j 0 = x := ⟨_, rfl⟩
      rw [hxx] at cx hx
      have HX := hide hxx
      clear hca hxx HO HB
      go_wp2_with fail
      refine (goes_any j R n b1 b2 _ hlt hR2 hm ((((unhide HBr).block b1 (Array.getElem?_eq_some_iff.1 (unhide H1)).1)).trans (unhide H1)) ((((unhide HBr).block b2 (Array.getElem?_eq_some_iff.1 (unhide H2)).1)).trans (unhide H2))).mono ?_
      rintro e w2 ⟨rfl, hb2⟩
      have HB2 := hide ((unhide HBr).trans (hb2.mono (unhide HBr).size))
      have HO2 := hide ((unhide HOr).below hb2)
      obtain ⟨p, hp⟩ : ∃ p, (j + R) % (2 * n) = p := ⟨_, rfl⟩
      rw [hp]
      have hp2 : p = if j + R < 2 * n then j + R else j + R - 2 * n := by
        rw [← hp]; split
        · rw [Nat.mod_eq_of_lt (by assumption)]
        · rw [Nat.mod_eq_sub_mod (by omega), Nat.mod_eq_of_lt (by omega)]
      have hplt : p < 2 * n := by rw [← hp]; exact Nat.mod_lt _ (by omega)
      have HP := hide hp2
      clear hp hp2 HBr HOr hb2
      by_cases c : p < n
      · have hcell := (unhide HO2).cell p _ (ints_at _ p (by rw [(unhide HLr).1]; exact c))
        have hfree := (unhide HO2).free p
        go_wp2
        go_roundw
        case rel =>
          refine ⟨j + 1, L.set p x, by omega, by simp, ?_, ?_, (unhide HB2).setCell (Nat.le_refl _) _⟩
          · have := (unhide HO2).set p (.int .i64 x)
            rw [ints_set] at this
            exact this
          · have hp := unhide HP
            refine place_step xs L n R j p x (unhide HN) (unhide HLr) hlt hR2 ?_ ?_
            · unfold plc; repeat' split
              all_goals (split at hp <;> omega)
            · unfold vlu
              rw [unhide HN, unhide HX]
              repeat' split
              all_goals (first | rfl | (exfalso; split at hp <;> omega))
        case measure => simp [intOf]; omega
      · obtain ⟨q, hq⟩ : ∃ q, p = q + n := ⟨p - n, by omega⟩
        subst hq
        have hcell := (unhide HO2).cell q _ (ints_at _ q (by rw [(unhide HLr).1]; omega))
        have hfree := (unhide HO2).free q
        go_wp2
        go_roundw
        case rel =>
          refine ⟨j + 1, L.set q (neg64 x), by omega, by simp, ?_, ?_, (unhide HB2).setCell (Nat.le_refl _) _⟩
          · have := (unhide HO2).set q (.int .i64 (neg64 x))
            rw [ints_set] at this
            exact this
          · have hp := unhide HP
            refine place_step xs L n R j q (neg64 x) (unhide HN) (unhide HLr) hlt hR2 ?_ ?_
            · unfold plc; repeat' split
              all_goals (split at hp <;> omega)
            · unfold vlu
              rw [unhide HN, unhide HX]
              repeat' split
              all_goals (first | rfl | (exfalso; split at hp <;> omega))
        case measure => simp [intOf]; omega
    · obtain rfl : j = n := by omega
      go_wp2
      go_ret
      refine ⟨_, rfl, Nat.le_refl _, ?_, unhide HBr⟩
      rw [← place_end xs L j R k (unhide HN) (unhide HLr) (unhide HR) (unhide HK)]
      exact unhide HOr

theorem sturn_any (a : Option Addr) (cap : Nat) (xs : List Int) (n : Nat) (k : Int) (w : World) (hl : Lies w a xs) (hs : Small xs) (hn : xs.length = n) (hm : n ≤ 1000000) (hk : In64 k) :
    Calls Tryd.prog 13 #[.slice a n cap, .int .i64 k] w fun e w' => ∃ g, e = .returned (.slice (some ⟨g, 0, none⟩) n n) ∧ w.heap.size ≤ g ∧ Cells w' g (ints (turnL xs k)) ∧ Below w.heap.size w w' := by
  have HL := hide hl
  clear hl
  go_enter Tryd.func13, Tryd.ntmps13
  go_wp2_with fail
  refine (parts_any k (2 * (n : Int)) _ hk (by unfold In64; omega)).mono ?_
  rintro e w1 ⟨rfl, hb⟩
  obtain ⟨R, hR, hR2, hR3⟩ : ∃ R : Nat, remI k (2 * (n : Int)) = R ∧ (0 < n → R < 2 * n) ∧ (0 < n → k % (2 * (n : Int)) = R) := by
    by_cases h0 : 0 < n
    · have h1 := rem_bd k (2 * (n : Int)) (by omega)
      exact ⟨(k % (2 * (n : Int))).toNat, by rw [remI_pos _ _ (by omega)]; omega, fun _ => by omega, fun _ => by omega⟩
    · exact ⟨0, by rw [remI_no _ _ (by omega)]; rfl, fun h => absurd h h0, fun h => absurd h h0⟩
  rw [hR]
  have HB1 := hide (((Below.refl w.heap.size w).alloc (Nat.le_refl _) (.cells #[.int .i64 (2 * (n : Int))] 3)).trans (hb.mono (by simp)))
  have HT := hide (show w1.heap[w.heap.size]? = some (.cells #[.int .i64 (2 * (n : Int))] 3 (0, 0)) by rw [hb.block _ (by simp)]; exact new_one _ _ _)
  have HS := hide hs
  have HN := hide hn
  have HR2 := hide hR2
  have HR3 := hide hR3
  clear hb hR hs hn hR2 hR3
  go_wp2_with fail
  refine (moved_any a cap xs n R w1.heap.size w.heap.size k _ ?_ (unhide HS) (unhide HN) (unhide HR2) hm (new_one _ _ _) ?_ (unhide HR3)).mono ?_
  · exact ((unhide HL).below (unhide HB1)).below ((Below.refl _ w1).alloc (Nat.le_refl _) _)
  · rw [((Below.refl w1.heap.size w1).alloc (Nat.le_refl _) (.cells #[.int .i64 (R : Int)] 3)).block _ (Array.getElem?_eq_some_iff.1 (unhide HT)).1]; exact unhide HT
  rintro e w2 ⟨g, rfl, hg, hc, hb2⟩
  have HG := hide (show w.heap.size ≤ g by have := (unhide HB1).size; simp at hg; omega)
  have HC := hide hc
  have HB2 := hide (((unhide HB1).alloc (unhide HB1).size (.cells #[.int .i64 (R : Int)] 3)).trans (hb2.mono (by have := (unhide HB1).size; simp; omega)))
  clear hc hb2 hg
  go_wp2
  go_ret
  exact ⟨_, rfl, unhide HG, unhide HC, unhide HB2⟩
end Go.Proofs.YtcnpbkgnoeoccaaDoor
