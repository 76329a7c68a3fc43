/- The document's coefficients: a row that is new. -/
import Derived.Test.YtbkdgpeooeokmaaGreatDoorFrontRflat
namespace Go.Proofs.YtbkdgpeooeokmaaGreatDoor
open Go.RowKit
set_option linter.unusedVariables false

set_option maxRecDepth 100000 in
theorem rdct_low (a : Option Addr) (cap n c : Nat) (xs : List Int) (w : World) (hn : xs.length = n) (hm : mayD n) (h1 : 1 ≤ c) (h2 : c ≤ n) (hl : Lies w a xs) (hs : Small xs) :
    Calls Tryz.prog 30 #[.int .i64 (c : Int), .slice a n cap] w (ToldC (dctL c xs) w) := by
  obtain ⟨i0, hi, hz0, hz1, hz2⟩ := info_parts Tryz.info3
  have HI : Hid (Tryz.prog.info? 3 = some i0 ∧ i0.zero = some (.int .i64 0) ∧ i0.size = 1 ∧ i0.bytes = 8) := ⟨hi, hz0, hz1, hz2⟩
  have h16 := (mayD_le hm).2
  have HD := hide (show decide ((n : Int) = 4 ∨ (n : Int) = 8 ∨ (n : Int) = 16) = true by rw [mayD_dec]; exact decide_eq_true hm)
  have HL := hide hl
  have HN := hide hn
  have HS := hide hs
  have HM := hide hm
  have g1 : ¬ (c : Int) < 1 := by omega
  have g2 : ¬ (n : Int) < (c : Int) := by omega
  clear hl hn hs hm hi hz0 hz1 hz2
  go_enter Tryz.func30, Tryz.ntmps30
  go_wp2_with fail
  refine (dmay_any (n : Int) w).mono ?_
  rintro e w0 ⟨rfl, rfl⟩
  rw [unhide HD]
  go_wp2
  generalize decide ((c : Int) < 1) = dd
  generalize decide (n < c) = dd2
  go_loopw [7, 6] (fun i v wr => ∃ k : Nat, k ≤ c ∧ i = .int .i64 (k : Int) ∧ Hid (wr.ownsRow w0.heap.size 3 1 v k (ints (mkL k fun k => coefI k xs))) ∧ Hid (Below w0.heap.size w0 wr))
    (fun i _ _ => c - (intOf i).toNat)
  case atStart => exact ⟨0, by omega, rfl, World.ownsRow_nil _ _ _ _, Below.refl _ _⟩
  case round =>
    obtain ⟨k, hk, rfl, HOr, HBr⟩ := hrel
    by_cases hlt : k < c
    · obtain ⟨z, hz⟩ : ∃ z, coefI k xs = z := ⟨_, rfl⟩
      have HZ := hide hz
      have HX := hide (mk_step (fun k => coefI k xs) k z hz)
      obtain ⟨k1, hk1⟩ : ∃ k1, k + 1 = k1 := ⟨_, rfl⟩
      have HK1 := hide hk1
      rw [hk1] at HX
      obtain ⟨LL, hLL⟩ : ∃ LL, ints (mkL k fun k => coefI k xs) = LL := ⟨_, rfl⟩
      rw [hLL] at HOr HX
      clear hLL hk1 hz
      go_wp2_with fail
      refine (rrow_yes n k _ (unhide HM) (by omega)).mono ?_
      rintro e w1 ⟨a1, l1, cap1, rfl, hl1, hlies, hb⟩
      obtain rfl : n = l1 := by rw [← hl1, cosRow_len]
      have hown1 := downs_under (unhide HOr) hb
      have HO1 := hide hown1
      have HR := hide hlies
      have HB1 := hide ((unhide HBr).trans (hb.mono (unhide HBr).size))
      have HL1 := hide ((unhide HL).below (unhide HB1))
      clear hlies hb hl1 hown1 HOr HBr
      go_wp2
      go_loopw [10, 9] (fun i v wr2 => ∃ m : Nat, m ≤ n ∧ i = .int .i64 (m : Int) ∧ Hid (v = .int .i64 (wrap64 (sumF (fun m => xs.getD m 0 * rowAt n k m) m))) ∧ Hid (∃ d, wr2 = w1.drewN d))
        (fun i _ _ => n - (intOf i).toNat)
      case atStart => exact ⟨0, by omega, rfl, by show _ = _; rw [show wrap64 (sumF (fun m => xs.getD m 0 * rowAt n k m) 0) = 0 by show wrap64 0 = 0; decide +kernel], 0, rfl⟩
      case round =>
        obtain ⟨m, hm, rfl, HV, HD2⟩ := hrel
        obtain ⟨wr2, rfl⟩ : ∃ x, x = wr := ⟨_, rfl⟩
        obtain ⟨s, hs⟩ : ∃ s, wrap64 (sumF (fun m => xs.getD m 0 * rowAt n k m) m) = s := ⟨_, rfl⟩
        rw [hs] at HV
        have hsb : In64 s := by rw [← hs]; exact wrap_in _
        have hv := unhide HV
        subst hv
        have HSS := hide hs
        clear HV hs
        by_cases hlt2 : m < n
        · obtain ⟨ba, oa, rfl, hlta, hca⟩ := (unhide HL1).some (by intro h; have := unhide HN; subst h; simp at this; omega)
          obtain ⟨x, hx⟩ : ∃ x, xs.getD m 0 = x := ⟨_, rfl⟩
          obtain ⟨y, hc⟩ : ∃ y, rowAt n k m = y := ⟨_, rfl⟩
          have cx : wr2.cell? ⟨ba, oa + m, none⟩ = some (.int .i64 x) := by
            obtain ⟨d, rfl⟩ := unhide HD2
            rw [← hx]; exact hca m (by rw [unhide HN]; exact hlt2)
          obtain ⟨b1, o1, rfl, hlt1, hc1⟩ := (unhide HR).some (by intro h; have := cosRow_len n k; rw [h] at this; simp at this; omega)
          have cy : wr2.cell? ⟨b1, o1 + m, none⟩ = some (.int .i64 y) := by
            obtain ⟨d, rfl⟩ := unhide HD2
            show w1.cell? ⟨b1, o1 + m, none⟩ = _
            rw [hc1 m (by rw [cosRow_len]; exact hlt2), cosRow, mkL_at _ _ _ hlt2, hc]
          have HX2 := hide (coef_step xs n k m s x y (unhide HSS) hx hc)
          have hmn : (m : Int) < (n : Int) := by omega
          clear hca hc1 hx hc
          go_wp2_with fail
          go_quiet (fail)
          go_wp2
          go_roundw
          case rel =>
            refine ⟨m + 1, by omega, by simp, by show _ = _; rw [unhide HX2], ?_⟩
            obtain ⟨d, hd⟩ := unhide HD2
            exact ⟨d + nq, by rw [hd, World.drewN_drewN]⟩
          case measure => simp [intOf]; omega
        · obtain rfl : m = n := by omega
          have HE2 := hide ((coef_end xs m k s (unhide HN) (unhide HSS)).trans (unhide HZ))
          have HSB := hide hsb
          have hbd : Below w1.heap.size w1 wr2 := by obtain ⟨d, rfl⟩ := unhide HD2; exact below_drewN w1 d
          have hown2 := downs_under (unhide HO1) hbd
          have HB2 := hide ((unhide HB1).trans (hbd.mono (unhide HB1).size))
          clear hsb hbd
          go_wp2_with fail
          refine (rhalf_any s 14 _ (unhide HSB)).mono ?_
          rintro e w3 ⟨rfl, rfl⟩
          rw [unhide HE2]
          go_wp2_with (at_builtin; refine wpList_append_own _ rfl _ _ 26 rfl w0.heap.size 3 i0 (.int .i64 0) 1 8 Tryz.underlying26 (unhide HI).1 (unhide HI).2.1 (unhide HI).2.2.1 (unhide HI).2.2.2 rfl (by decide) _ _ _ rfl (hown2.alloc _) ⟨w3.heap.size, 0, none⟩ 1 1 [.int .i64 z] rfl rfl ?d1 ?d2 ?d3 ?d4 ?d5 ?_)
          case d1 => exact cell_one_new _ _ _
          case d2 => exact ints_one [z]
          case d3 => unfold maxLen; omega
          case d4 => omega
          case d5 => have := (unhide HB2).size; simp; omega
          intro v4 w5 hown4 hg4 _
          have hgr : ∀ q, Value.ownBlock _ = some q → w0.heap.size ≤ q := fun q hq => (hown2.lt q hq).1
          have HB4 := hide (((unhide HB2).alloc (unhide HB2).size _).grown hg4 (by have := (unhide HB2).size; simp; omega) hgr)
          rw [unhide HK1, ← unhide HX] at hown4
          have HOwn4 := hide hown4
          clear hown4 hg4 hgr hown2
          go_wp2
          go_roundw
          case rel => exact ⟨k1, by have := unhide HK1; omega, by have := unhide HK1; simp; omega, HOwn4, HB4⟩
          case measure => have := unhide HK1; simp [intOf]; omega
    · obtain rfl : k = c := by omega
      obtain ⟨a5, c5, rfl, hl5, hc1, hc2, hli5, hs5, hq5⟩ := owned_slot (unhide HOr)
      have HL5 := hide (And.intro hli5 (And.intro hs5 hq5))
      clear hl5 hli5 hs5 hq5 HOr
      go_wp2
      go_ret
      exact ⟨_, _, _, rfl, by rw [dct_len], hc1, hc2, (unhide HL5).1, (unhide HL5).2.1, (unhide HL5).2.2, unhide HBr⟩
end Go.Proofs.YtbkdgpeooeokmaaGreatDoor
