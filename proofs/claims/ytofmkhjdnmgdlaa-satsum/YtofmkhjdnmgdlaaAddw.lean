/- The walk of SatAdds. -/
import Derived.Test.YtofmkhjdnmgdlaaCame
import Derived.Test.YtofmkhjdnmgdlaaOrder
import Derived.Laws.AppendOwnNone
namespace Go.Proofs.Ytofmkhjdnmgdlaa
open Go.RowKit
set_option linter.unusedVariables false

theorem ab (bits : Int) (h : In64 bits) : 1 ≤ wrap64 (1 + (wrap64 (bits.tmod 62 + 62)).tmod 62) ∧ wrap64 (1 + (wrap64 (bits.tmod 62 + 62)).tmod 62) ≤ 62 := by
  have h1 := Int.tmod_lt_of_pos bits (b := 62) (by decide)
  have h2 := Int.lt_tmod_of_pos bits (b := 62) (by decide)
  rw [w64_in (n := bits.tmod 62 + 62) ⟨by omega, by omega⟩]
  generalize bits.tmod 62 = t at *
  have h3 := Int.tmod_eq_emod_of_nonneg (a := t + 62) (b := 62) (by omega)
  rw [h3, w64_in ⟨by omega, by omega⟩]
  omega

theorem Try.info3 : (Try.prog.info? 3).map (fun i => (i.zero, i.size, i.bytes)) = some (some (.int .i64 0), 1, 8) := by kernel_rfl

theorem owned_lies {w : World} {base n : Nat} {v : Value} {xs : List Int} (h : w.ownsRow base 3 1 v n (xs.map (Value.int .i64))) :
    ∃ a cap, v = .slice a xs.length cap ∧ Lies w a xs ∧ xs.length = n := by
  have hn : xs.length = n := by have := h.1; simpa using this
  rcases h.2 with ⟨hv, h0⟩ | ⟨g, cap, cur, hv, hb, hg, _⟩
  · subst h0
    have hx : xs = [] := List.length_eq_zero_iff.1 hn
    subst hx
    exact ⟨none, 0, hv, .inl rfl, rfl⟩
  · refine ⟨some ⟨g, 0, none⟩, cap, by rw [hv, hn], .inr ⟨g, 0, rfl, (Array.getElem?_eq_some_iff.1 hg).1, fun j hj => ?_⟩, hn⟩
    have hc := h.cells (g := g) (by rw [hv]; rfl) j (.int .i64 (xs.getD j 0)) (by simp [List.getD_eq_getElem?_getD, List.getElem?_eq_getElem hj])
    rw [Addr.add_lit] at hc
    exact hc
theorem lies_news {w : World} {ad : Addr} {xs : List Int} (h : Lies w (some ad) xs) : ∀ j u, (xs.map (Value.int .i64))[j]? = some u → w.cell? (ad.add j) = some u := by
  intro j u hu
  rcases h with rfl | ⟨b, off, ha, _, hc⟩
  · simp at hu
  · cases ha
    rw [Addr.add_lit]
    simp at hu
    obtain ⟨z, hz, rfl⟩ := hu
    have hj : j < xs.length := (List.getElem?_eq_some_iff.1 hz).1
    rw [hc j hj, List.getD_eq_getElem?_getD, hz]; rfl
theorem ints_one (xs : List Int) : ∀ u ∈ xs.map (Value.int .i64), u.oneCell' = true := by
  intro u hu
  obtain ⟨z, _, rfl⟩ := List.mem_map.1 hu
  rfl

theorem add0_eq (b : Int) (xs : List Int) (h1 : 1 ≤ b) (h2 : b ≤ 64) : add0 b xs = addL b xs := by unfold add0; rw [if_pos ⟨h1, h2⟩]
theorem pw_le62 (b : Int) (h : b ≤ 62) : pw b ≤ 2305843009213693952 := by
  have h1 := pw_mono b 62 h
  have h2 : pw 62 = 2305843009213693952 := by decide
  omega
theorem fits_add (b : Int) (xs : List Int) (h1 : 1 ≤ b) (h2 : b ≤ 64) : fitsB (addL b xs) b = true := by
  have := addL_in b xs
  unfold fitsB
  exact decide_eq_true ⟨h1, h2, this.1, this.2⟩

theorem addTo_bd (b : Int) (xs : List Int) (k : Nat) : -(pw b) ≤ addTo b xs k ∧ addTo b xs k ≤ pw b - 1 := addL_in b _
theorem fits62 (z : Int) (h : fitsB z 62 = true) : -2305843009213693952 ≤ z ∧ z ≤ 2305843009213693951 := by
  unfold fitsB at h
  have h1 := of_decide_eq_true h
  have h2 : pw 62 = 2305843009213693952 := by decide
  omega
theorem fits_eq (z b : Int) (h : fitsB z b = true) : satI z b = z := by
  unfold fitsB at h
  have h1 := of_decide_eq_true h
  exact satI_fits z b ⟨h1.2.2.1, h1.2.2.2⟩

set_option maxHeartbeats 4000000 in
theorem adds_walk (a : Option Addr) (len cap : Nat) (zs : List Int) (x bits : Int) (w : World) (hrow : IsRow .i64 w a len cap zs) (hx : In64 x) (hbits : In64 bits) :
    Calls Try.prog 7 #[.slice a len cap, .int .i64 x, .int .i64 bits] w fun e w' => e = .returned (.bool true) ∧ Below w.heap.size w w' := by
  obtain ⟨xs, h40, hcap, hmax, hl, hs, hnone, hfew⟩ := few_came a len cap zs w hrow
  go_enter Try.func7, Try.ntmps7
  go_wp2_with fail
  refine (awake_any _).mono ?_
  rintro e w1 ⟨rfl, hb1⟩
  go_wp2_with fail
  refine (hfew _).mono ?_
  rintro e w2 ⟨rfl, rfl⟩
  clear hfew hrow
  go_wp2_with fail
  obtain ⟨b1, b2⟩ := ab bits hbits
  generalize wrap64 (1 + (wrap64 (bits.tmod 62 + 62)).tmod 62) = b at *
  have hlw2 := hl.below hb1
  refine (add_any a cap b xs w2 hlw2 hs (by omega)).mono ?_
  rintro e w3 ⟨rfl, hb3⟩
  obtain ⟨i0, hi, hz0, hz1, hz2⟩ := info_parts Try.info3
  have hown0 : (w3.alloc (.cells #[] 3)).ownsRow w3.heap.size 3 1 (.slice (some ⟨w3.heap.size, 0, none⟩) 0 0) 0 [] := World.ownsRow_made w3 #[] 0 (Nat.le_refl _) (Nat.zero_le _) rfl
  have hlw3 := hlw2.below hb3
  have hlw3' := hlw3.below ((Below.refl _ w3).alloc (Nat.le_refl _) (.cells #[] 3))
  cases a with
  | none =>
    obtain ⟨rfl, rfl⟩ := hnone rfl
    go_wp2_with (first | (at_builtin; refine wpList_append_own_none rfl _ _ 23 rfl w3.heap.size 3 i0 1 Try.underlying23 hi _ 0 [] rfl hown0 rfl ?_) | (at_builtin; refine wpList_append_own _ rfl _ _ 23 rfl w3.heap.size 3 i0 (.int .i64 0) 1 8 Try.underlying23 hi hz0 hz1 hz2 rfl (by decide) _ 0 [] rfl (hown0.alloc _) ⟨w3.heap.size + 1, 0, none⟩ 1 1 [.int .i64 (x / 4)] rfl rfl ?d1 ?d2 ?d3 ?d4 ?d5 ?_))
    case d1 => have h := cell_one_new (w3.alloc (.cells #[] 3)) (.int .i64 (x / 4)) 3; rw [World.size_alloc] at h; exact h
    case d2 => exact ints_one [x / 4]
    case d3 => unfold maxLen; omega
    case d4 => omega
    case d5 => simp; omega
    intro v6 w6 hown6 hg6 _
    have hb36 : Below w3.heap.size w3 w6 := ((((Below.refl _ w3).alloc (Nat.le_refl _) _).alloc (by simp) _)).grown hg6 (by simp; omega) (fun j hj => by cases hj; exact Nat.le_refl _)
    replace hown6 : w6.ownsRow w3.heap.size 3 1 v6 1 ((([] : List Int) ++ [x / 4]).map (Value.int .i64)) := hown6
    clear hg6 hown0
    obtain ⟨a6, c6, rfl, hl6, hlen6⟩ := owned_lies hown6
    have hs6 : Small (([] : List Int) ++ [x / 4]) := by
      intro z hz
      rcases List.mem_append.1 hz with h | h
      · exact hs z h
      · simp at h; subst h; exact ⟨by have := hx.1; omega, by have := hx.2; omega⟩
    go_wp2_with fail
    refine (add_any a6 c6 b (([] : List Int) ++ [x / 4]) w6 hl6 hs6 (by simp)).mono ?_
    rintro e w7 ⟨rfl, hb7⟩
    have hall : Below w.heap.size w w7 := by
      have s1 := hb1.size
      have s2 := hb3.size
      exact (hb1.trans (hb3.mono s1)).trans ((hb36.mono (Nat.le_trans s1 s2)).trans (hb7.mono (by have := hb36.size; omega)))
    have hlw7 : Lies w7 none ([] : List Int) := (hlw3.below hb36).below hb7
    rw [add0_eq b ([] : List Int) b1 (by omega), add0_eq b (([] : List Int) ++ [x / 4]) b1 (by omega), addL_snoc]
    have hn := addL_in b ([] : List Int)
    have hpw := pw_le62 b b2
    have hx4 : -2305843009213693952 ≤ x / 4 ∧ x / 4 ≤ 2305843009213693951 := by obtain ⟨h1, h2⟩ := hx; omega
    obtain ⟨hx41, hx42⟩ := hx4
    have Hend := hide (addTo_all b ([] : List Int))
    have Hfit := hide (fits_add b ([] : List Int) b1 (by omega))
    clear hb1 hb3 hb36 hb7 hown6 hl6 hs6
    generalize x / 4 = y at *
    obtain ⟨hn1, hn2⟩ := hn
    have hp0 := pw_pos b
    go_wp2
    go_loopw [12, 13, 14] (fun t m i wr => ∃ (k : Nat) (S : Int) (M : Bool), k ≤ ([] : List Int).length ∧ i = .int .i64 k ∧ t = .int .i64 S ∧ m = .bool M ∧ wr = w7 ∧ (M = false → S = addTo b ([] : List Int) k)) (fun _ _ i _ => ([] : List Int).length - (intOf i).toNat)
    case atStart => exact ⟨0, 0, false, Nat.zero_le _, rfl, rfl, rfl, rfl, fun _ => rfl⟩
    case round =>
      obtain ⟨k, S, M, hk, rfl, rfl, rfl, rfl, hM⟩ := hrel
      cases M with
      | true =>
        by_cases hlt : k < ([] : List Int).length
        · exact absurd hlt (by simp)
        · go_wp2_with fail
          refine (fits_any _ _ _).mono ?_
          rintro e w8 ⟨rfl, rfl⟩
          rw [unhide Hfit]
          go_wp2_with fail
          refine (sat_any _ _ _).mono ?_
          rintro e w8 ⟨rfl, rfl⟩
          rw [sat0_eq _ b b1 (by omega)]
          go_wp2
          go_ret
          exact ⟨rfl, hall⟩
      | false =>
        have hS := hM rfl
        clear hM
        have hSin := addTo_bd b ([] : List Int) k
        by_cases hlt : k < ([] : List Int).length
        · simp at hlt
        · have e : k = ([] : List Int).length := by omega
          have HN := hide (show S = addL b ([] : List Int) by rw [hS, e, unhide Hend])
          clear hS hSin
          go_wp2_with fail
          refine (fits_any _ _ _).mono ?_
          rintro e w8 ⟨rfl, rfl⟩
          rw [unhide Hfit]
          go_wp2_with fail
          refine (sat_any _ _ _).mono ?_
          rintro e w8 ⟨rfl, rfl⟩
          rw [sat0_eq _ b b1 (by omega)]
          rw [← unhide HN]
          go_wp2
          go_ret
          exact ⟨rfl, hall⟩
  | some ad =>
    go_wp2_with (at_builtin; refine wpList_append_own _ rfl _ _ 23 rfl w3.heap.size 3 i0 (.int .i64 0) 1 8 Try.underlying23 hi hz0 hz1 hz2 rfl (by decide) _ 0 [] rfl hown0 ad xs.length cap (xs.map (Value.int .i64)) rfl ?c0 ?c1 ?c2 ?c3 ?c4 ?c5 ?_)
    case c0 => simp
    case c1 => exact lies_news hlw3'
    case c2 => exact ints_one xs
    case c3 => unfold maxLen; omega
    case c4 => omega
    case c5 => simp
    intro v4 w4 hown4 hg4 _
    have hb34 : Below w3.heap.size w3 w4 := ((Below.refl _ w3).alloc (Nat.le_refl _) _).grown hg4 (by simp) (fun j hj => by cases hj; exact Nat.le_refl _)
    have hsz4 := hb34.size
    go_wp2_with (at_builtin; refine wpList_append_own _ rfl _ _ 23 rfl w3.heap.size 3 i0 (.int .i64 0) 1 8 Try.underlying23 hi hz0 hz1 hz2 rfl (by decide) _ xs.length (xs.map (Value.int .i64)) rfl (hown4.alloc _) ⟨w4.heap.size, 0, none⟩ 1 1 [.int .i64 (x / 4)] rfl rfl ?d1 ?d2 ?d3 ?d4 ?d5 ?_)
    case d1 => exact cell_one_new _ _ _
    case d2 => exact ints_one [x / 4]
    case d3 => unfold maxLen; omega
    case d4 => omega
    case d5 => simp; omega
    intro v6 w6 hown6 hg6 _
    have hb36 : Below w3.heap.size w3 w6 := ((hb34.alloc hsz4 _)).grown hg6 (by simp; omega) (fun j hj => (hown4.lt j hj).1)
    rw [show xs.map (Value.int .i64) ++ [Value.int .i64 (x / 4)] = (xs ++ [x / 4]).map (Value.int .i64) by simp] at hown6
    clear hg6 hown0 hown4 hg4 hb34
    obtain ⟨a6, c6, rfl, hl6, hlen6⟩ := owned_lies hown6
    have hs6 : Small (xs ++ [x / 4]) := by
      intro z hz
      rcases List.mem_append.1 hz with h | h
      · exact hs z h
      · simp at h; subst h; exact ⟨by have := hx.1; omega, by have := hx.2; omega⟩
    have hadd := add_any a6 c6 b (xs ++ [x / 4]) w6 hl6 hs6 (by simp; omega)
    rw [show (xs ++ [x / 4]).length = xs.length + 1 by simp] at hadd
    have Hadd := hide hadd
    clear hadd
    go_wp2_with fail
    refine (unhide Hadd).mono ?_
    rintro e w7 ⟨rfl, hb7⟩
    have hall : Below w.heap.size w w7 := by
      have s1 := hb1.size
      have s2 := hb3.size
      exact (hb1.trans (hb3.mono s1)).trans ((hb36.mono (Nat.le_trans s1 s2)).trans (hb7.mono (by have := hb36.size; omega)))
    have hlw7 : Lies w7 (some ad) xs := (hlw3.below hb36).below hb7
    rw [add0_eq b xs b1 (by omega), add0_eq b (xs ++ [x / 4]) b1 (by omega), addL_snoc]
    have hn := addL_in b xs
    have hpw := pw_le62 b b2
    have hx4 : -2305843009213693952 ≤ x / 4 ∧ x / 4 ≤ 2305843009213693951 := by obtain ⟨h1, h2⟩ := hx; omega
    obtain ⟨hx41, hx42⟩ := hx4
    have Hend := hide (addTo_all b xs)
    have Hfit := hide (fits_add b xs b1 (by omega))
    clear hb1 hb3 hb36 hb7 hown6 hl6 hs6
    generalize x / 4 = y at *
    obtain ⟨hn1, hn2⟩ := hn
    have hp0 := pw_pos b
    go_wp2
    go_loopw [12, 13, 14] (fun t m i wr => ∃ (k : Nat) (S : Int) (M : Bool), k ≤ xs.length ∧ i = .int .i64 k ∧ t = .int .i64 S ∧ m = .bool M ∧ wr = w7 ∧ (M = false → S = addTo b xs k)) (fun _ _ i _ => xs.length - (intOf i).toNat)
    case atStart => exact ⟨0, 0, false, Nat.zero_le _, rfl, rfl, rfl, rfl, fun _ => rfl⟩
    case round =>
      obtain ⟨k, S, M, hk, rfl, rfl, rfl, rfl, hM⟩ := hrel
      cases M with
      | true =>
        by_cases hlt : k < xs.length
        · go_wp2_with fail
          refine (fits_any _ _ _).mono ?_
          rintro e w8 ⟨rfl, rfl⟩
          rw [unhide Hfit]
          go_wp2_with fail
          refine (sat_any _ _ _).mono ?_
          rintro e w8 ⟨rfl, rfl⟩
          rw [sat0_eq _ b b1 (by omega)]
          go_wp2
          go_ret
          exact ⟨rfl, hall⟩
        · go_wp2_with fail
          refine (fits_any _ _ _).mono ?_
          rintro e w8 ⟨rfl, rfl⟩
          rw [unhide Hfit]
          go_wp2_with fail
          refine (sat_any _ _ _).mono ?_
          rintro e w8 ⟨rfl, rfl⟩
          rw [sat0_eq _ b b1 (by omega)]
          go_wp2
          go_ret
          exact ⟨rfl, hall⟩
      | false =>
        have hS := hM rfl
        clear hM
        have hSin := addTo_bd b xs k
        by_cases hlt : k < xs.length
        · rcases hlw7 with h0 | ⟨ba, off, hea, hblt, hcells⟩
          · rw [h0] at hlt; simp at hlt
          cases hea
          have hc := hcells k hlt
          have hxk := hs.at k hlt
          have hsucc := addTo_succ b xs k hlt
          generalize xs.getD k 0 = z at *
          have HS := hide hS
          have HK := hide hsucc
          clear hS hsucc hcells
          rw [← unhide HS] at hSin
          obtain ⟨hS1, hS2⟩ := hSin
          by_cases hf : fitsB z 62 = true
          · have hz := fits62 z hf
            obtain ⟨hz1, hz2⟩ := hz
            go_wp2_with fail
            refine (fits_any _ _ _).mono ?_
            rintro e w8 ⟨rfl, rfl⟩
            rw [hf]
            go_wp2_with fail
            refine (fits_any _ _ _).mono ?_
            rintro e w8 ⟨rfl, rfl⟩
            go_wp2
            go_roundw
            case rel => exact ⟨k + 1, S + z, !fitsB (S + z) b, by omega, by go_num, rfl, rfl, trivial, fun h => by rw [unhide HK, ← unhide HS]; exact (fits_eq _ _ (by simpa using h)).symm⟩
            case measure => simp [intOf]; omega
          · have hf' : fitsB z 62 = false := by simpa using hf
            clear hf
            go_wp2_with fail
            refine (fits_any _ _ _).mono ?_
            rintro e w8 ⟨rfl, rfl⟩
            rw [hf']
            go_wp2
            go_roundw
            case rel => exact ⟨k + 1, S, true, by omega, by go_num, rfl, rfl, trivial, fun h => by cases h⟩
            case measure => simp [intOf]; omega
        · have e : k = xs.length := by omega
          have HN := hide (show S = addL b xs by rw [hS, e, unhide Hend])
          clear hS hSin
          go_wp2_with fail
          refine (fits_any _ _ _).mono ?_
          rintro e w8 ⟨rfl, rfl⟩
          rw [unhide Hfit]
          go_wp2_with fail
          refine (sat_any _ _ _).mono ?_
          rintro e w8 ⟨rfl, rfl⟩
          rw [sat0_eq _ b b1 (by omega)]
          rw [← unhide HN]
          go_wp2
          go_ret
          exact ⟨rfl, hall⟩
end Go.Proofs.Ytofmkhjdnmgdlaa
