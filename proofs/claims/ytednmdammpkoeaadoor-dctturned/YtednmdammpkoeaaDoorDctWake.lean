/- The chapter's examples: awake returns true. Numbers of a size that may be; rows that come in: their first twenty; tells. -/
import Derived.Test.YtednmdammpkoeaaDoorDctCoef
namespace Go.Proofs.YtednmdammpkoeaaDoor
open Go.RowKit
set_option linter.unusedVariables false

/-! ### Numbers of a size that may be -/
theorem rest3 (x : Int) (hx : In64 x) : ∃ r : Nat, r < 3 ∧ (x.tmod 3 + 3).tmod 3 = (r : Int) ∧ 0 ≤ x.tmod 3 + 3 ∧ x.tmod 3 + 3 < 6 := by
  have h1 := Int.tmod_lt_of_pos x (b := 3) (by decide)
  have h2 := Int.lt_tmod_of_pos x (b := 3) (by decide)
  refine ⟨((x.tmod 3 + 3) % 3).toNat, by omega, ?_, by omega, by omega⟩
  rw [Int.tmod_eq_emod_of_nonneg (by omega)]; omega
/-- How many numbers there are. -/
theorem size3 (x : Int) (hx : In64 x) : ∃ n : Nat, mayD n ∧ wrap64 (4 * 2 ^ min (IntKind.u64.wrap ((wrap64 (x.tmod 3 + 3)).tmod 3)).toNat 64) = (n : Int) := by
  obtain ⟨r, hr, hr1, hr2, hr3⟩ := rest3 x hx
  have hp : ∀ r, r < 3 → mayD (4 * 2 ^ r) := by decide
  refine ⟨4 * 2 ^ r, hp r hr, ?_⟩
  have hm := (mayD_le (hp r hr)).2
  rw [w64_in (show In64 (x.tmod 3 + 3) from ⟨by omega, by omega⟩), hr1, IntKind.wrap_u64]
  have e : ((r : Int) % 18446744073709551616).toNat = r := by omega
  rw [e, Nat.min_eq_left (by omega)]
  have e2 : (4 : Int) * 2 ^ r = ((4 * 2 ^ r : Nat) : Int) := by simp
  rw [e2, w64_in ⟨by omega, by omega⟩]

set_option maxRecDepth 100000 in
theorem sized_all (x : Int) (hx : In64 x) : ∃ n, mayD n ∧ wrap64 (4 * 2 ^ min (IntKind.u64.wrap ((wrap64 (x.tmod 3 + 3)).tmod 3)).toNat 64) = (n : Int) ∧ ∀ (a : Option Addr) (len cap : Nat) (xs : List Int) (w' : World), Lies w' a xs → xs.length = len →
    Calls Tryd.prog 9 #[.slice a len cap, .int .i64 x] w' fun e w'' => ∃ g, e = .returned (.slice (some ⟨g, 0, none⟩) n n) ∧ w'.heap.size ≤ g ∧ Cells w'' g (ints (sizedL xs n)) ∧ Below w'.heap.size w' w'' := by
  obtain ⟨i0, hi, hz0, hz1, hz2⟩ := info_parts Tryd.info3
  obtain ⟨n, hn, hz⟩ := size3 x hx
  refine ⟨n, hn, hz, fun a len cap xs w' hl hlen => ?_⟩
  have hm := (mayD_le hn).2
  have HZ := hide hz
  have HL := hide hl
  have HN := hide hlen
  clear hz hl hlen hn
  go_enter Tryd.func9, Tryd.ntmps9
  go_wp2_with (at_make; rw [unhide HZ]; refine wpList_make_full _ rfl _ _ 22 rfl w'.heap.size 3 i0 (.int .i64 0) 1 Tryd.underlying22 hi hz0 hz1 _ _ _ _ n rfl rfl rfl rfl ?m1 ?m2 ?m3 ?_)
  case m1 => rw [hz2]; omega
  case m2 => unfold maxLen; omega
  case m3 => exact Nat.le_refl _
  intro w1 hown hgr
  rw [ints_zero] at hown
  have HO := hide (own_cells hown)
  have HB := hide ((Below.refl w'.heap.size w').grown hgr (Nat.le_refl _) (fun _ h => by cases h))
  clear hown hgr
  go_wp2
  rw [← sizTo_zero xs n] at HO
  go_loopw [6] (fun i wr => ∃ j : Nat, j ≤ n ∧ i = .int .i64 (j : Int) ∧ Hid (Cells wr w'.heap.size (ints (sizTo xs n j))) ∧ Hid (Below w'.heap.size w' wr))
    (fun i _ => n - (intOf i).toNat)
  case atStart => exact ⟨0, by omega, rfl, HO, HB⟩
  case round =>
    obtain ⟨j, hj, rfl, HOr, HBr⟩ := hrel
    by_cases c : j < n ∧ j < len
    · obtain ⟨c1, c2⟩ := c
      obtain ⟨ba, oa, rfl, hlta, hca⟩ := (unhide HL).some (by intro h; have := unhide HN; subst h; simp at this; omega)
      have cx : wr.cell? ⟨ba, oa + j, none⟩ = some (.int .i64 (xs.getD j 0)) := by rw [(unhide HBr).cell (p := ⟨ba, _, none⟩) hlta]; exact hca j (by rw [unhide HN]; exact c2)
      have hcell := (unhide HOr).cell j _ (ints_at _ j (by rw [sizTo_len]; exact c1))
      have hfree := (unhide HOr).free j
      have HSet := hide (sizTo_set xs n j c1)
      generalize xs.getD j 0 = y at cx HSet
      generalize (sizTo xs n j).getD j 0 = z at hcell
      clear hca HO HB
      go_wp2
      go_roundw
      case rel =>
        refine ⟨j + 1, by omega, by simp, ?_, (unhide HBr).setCell (Nat.le_refl _) _⟩
        have := (unhide HOr).set j (.int .i64 y)
        rw [ints_set, unhide HSet] at this
        exact this
      case measure => simp [intOf]; omega
    · have HE := hide (sizTo_all xs n j (by rw [unhide HN]; omega))
      rw [unhide HE] at HOr
      clear HO HB
      by_cases c1 : j < n
      · have c2 : ¬ j < len := fun e => c ⟨c1, e⟩
        go_wp2
        go_ret
        exact ⟨_, rfl, Nat.le_refl _, unhide HOr, unhide HBr⟩
      · go_wp2
        go_ret
        exact ⟨_, rfl, Nat.le_refl _, unhide HOr, unhide HBr⟩

/-! ### The chapter's examples -/
theorem wake_logs : logsL [0, 1, 7, -5] = [0, 256, 768, 0] := by decide +kernel
theorem wake_dct : dctI 2 [3, 3, 3, 3] = [12, 0] := by decide +kernel
set_option maxRecDepth 100000 in
theorem dct_awake (w : World) (hq : Quar w) : Calls Tryd.prog 8 #[] w fun e w' => e = .returned (.bool true) ∧ Below w.heap.size w w' := by
  have HQ := hide hq
  clear hq
  go_enter Tryd.func8, Tryd.ntmps8
  go_wp2_with fail
  have HB0 := hide (alloc_below w (.cells #[.int .i64 0, .int .i64 1, .int .i64 7, .int .i64 (-5)] 3))
  refine (logs_any (some ⟨w.heap.size, 0, none⟩) 4 4 [0, 1, 7, -5] _ (lies_new w [0, 1, 7, -5] _ rfl) (by intro x hx; simp at hx; unfold In64; omega) rfl (by decide)).mono ?_
  intro e w1 hT
  rw [wake_logs] at hT
  obtain ⟨a, c, rfl, hl, hb⟩ := told_len hT (n := 4) rfl
  have HL := hide hl
  have HB := hide (below_trans (unhide HB0) hb)
  clear hl hb hT HB0
  go_wp2_with fail
  refine (same_any a (some ⟨w1.heap.size, 0, none⟩) c 4 [0, 256, 768, 0] 4 rfl (by decide) _ ((unhide HL).below (alloc_below _ _)) (lies_new w1 [0, 256, 768, 0] _ rfl)).mono ?_
  rintro e w2 ⟨rfl, hb2⟩
  have HB2 := hide (below_trans (unhide HB) ((alloc_below w1 (.cells #[.int .i64 0, .int .i64 256, .int .i64 768, .int .i64 0] 3)).trans (hb2.mono (by simp))))
  clear hb2 HL HB
  go_wp2_with fail
  have HB3 := hide (below_trans (unhide HB2) (alloc_below w2 (.cells #[.int .i64 3, .int .i64 3, .int .i64 3, .int .i64 3] 3)))
  refine (dct_any 2 (some ⟨w2.heap.size, 0, none⟩) 4 4 [3, 3, 3, 3] _ rfl (by decide) (lies_new w2 [3, 3, 3, 3] _ rfl) (by intro x hx; simp at hx; unfold In64; omega) ((unhide HQ).below (unhide HB3))).mono ?_
  intro e w3 hT
  rw [wake_dct] at hT
  obtain ⟨a3, c3, rfl, hl, hb⟩ := told_len hT (n := 2) rfl
  have HL := hide hl
  have HB4 := hide (below_trans (unhide HB3) hb)
  clear hl hb hT HB3 HB2
  go_wp2_with fail
  refine (same_any a3 (some ⟨w3.heap.size, 0, none⟩) c3 2 [12, 0] 2 rfl (by decide) _ ((unhide HL).below (alloc_below _ _)) (lies_new w3 [12, 0] _ rfl)).mono ?_
  rintro e w4 ⟨rfl, hb4⟩
  have HB5 := hide (below_trans (unhide HB4) ((alloc_below w3 (.cells #[.int .i64 12, .int .i64 0] 3)).trans (hb4.mono (by simp))))
  clear hb4 HL HB4
  go_wp2_with fail
  go_ret
  exact ⟨rfl, unhide HB5⟩

theorem dctRowI_le (k b : Int) : (dctRowI k b).length ≤ 16 := by
  unfold dctRowI; split
  · rw [cosRow_len]; omega
  · simp
theorem dctI_le (c : Int) (xs : List Int) : (dctI c xs).length ≤ 16 := by
  unfold dctI; split
  · rename_i h; rw [dct_len]; have := (mayD_le h.1).2; omega
  · simp
set_option maxRecDepth 100000 in
theorem dct_tells_any (k b : Int) (a : Option Addr) (cap n : Nat) (xs : List Int) (w : World) (hn : xs.length = n) (hn63 : n ≤ 9223372036854775807) (hl : Lies w a xs) (hs : Small xs) (hq : Quar w) :
    Calls Tryd.prog 13 #[.slice a n cap, .int .i64 k, .int .i64 b] w fun e w' => e = .returned (.bool true) ∧ Below w.heap.size w w' := by
  have HN := hide hn
  have HL := hide hl
  have HS := hide hs
  have HQ := hide hq
  clear hn hl hs hq
  go_enter Tryd.func13, Tryd.ntmps13
  go_wp2_with fail
  refine (row_any k b w (unhide HQ)).mono ?_
  rintro e w1 ⟨a1, l1, c1, rfl, hl1, hlies, hb⟩
  have HL1 := hide hl1
  have HLI1 := hide hlies
  have HB1 := hide hb
  clear hl1 hlies hb
  go_wp2_with fail
  refine (rrow_any k b w1).mono ?_
  rintro e w2 ⟨a2, l2, c2, rfl, hl2, hlies, hb⟩
  obtain rfl : l1 = l2 := by rw [← unhide HL1, ← hl2]
  have HLI2 := hide hlies
  have HLI1b := hide ((unhide HLI1).below hb)
  have HB2 := hide (below_trans (unhide HB1) hb)
  clear hl2 hlies hb HLI1 HB1
  go_wp2_with fail
  refine (same_any a1 a2 c1 c2 (dctRowI k b) l1 (unhide HL1) (by have := dctRowI_le k b; rw [unhide HL1] at this; omega) _ (unhide HLI1b) (unhide HLI2)).mono ?_
  rintro e w3 ⟨rfl, hb⟩
  have HB3 := hide (below_trans (unhide HB2) hb)
  clear hb HB2 HLI1b HLI2 HL1
  go_wp2_with fail
  refine (dct_any k a cap n xs w3 (unhide HN) hn63 ((unhide HL).below (unhide HB3)) (unhide HS) ((unhide HQ).below (unhide HB3))).mono ?_
  rintro e w4 ⟨a1, l1, c1, rfl, hl1, hlies, hb⟩
  have HL1 := hide hl1
  have HLI1 := hide hlies
  have HB4 := hide (below_trans (unhide HB3) hb)
  clear hl1 hlies hb HB3
  go_wp2_with fail
  refine (rdct_any k a cap n xs w4 (unhide HN) hn63 ((unhide HL).below (unhide HB4)) (unhide HS)).mono ?_
  rintro e w5 ⟨a2, l2, c2, rfl, hl2, hlies, hb⟩
  obtain rfl : l1 = l2 := by rw [← unhide HL1, ← hl2]
  have HLI2 := hide hlies
  have HLI1b := hide ((unhide HLI1).below hb)
  have HB5 := hide (below_trans (unhide HB4) hb)
  clear hl2 hlies hb HLI1 HB4
  go_wp2_with fail
  refine (same_any a1 a2 c1 c2 (dctI k xs) l1 (unhide HL1) (by have := dctI_le k xs; rw [unhide HL1] at this; omega) _ (unhide HLI1b) (unhide HLI2)).mono ?_
  rintro e w6 ⟨rfl, hb⟩
  have HB6 := hide (below_trans (unhide HB5) hb)
  clear hb HB5 HLI1b HLI2 HL1
  go_wp2_with fail
  go_ret
  exact ⟨rfl, unhide HB6⟩
end Go.Proofs.YtednmdammpkoeaaDoor
