/- SpinQuarter returns true. -/
import Derived.Test.YtcnpbkgnoeoccaaDoorTells
namespace Go.Proofs.YtcnpbkgnoeoccaaDoor
open Go.RowKit
set_option linter.unusedVariables false

set_option maxRecDepth 100000 in
set_option maxHeartbeats 6400000 in
theorem quarter_walk (a : Option Addr) (n ca : Nat) (zx : List Int) (q : Int) (w : World) (hx : IsRow .i64 w a n ca zx) (hq1 : In64 q) (hq : Quar w) :
    Calls Tryd.prog 6 #[.slice a n ca, .int .i64 q] w fun e w' => e = .returned (.bool true) ∧ Below w.heap.size w w' := by
  obtain ⟨xs, hxn, hxl, hxs⟩ := row_whole a n ca zx w hx
  obtain ⟨h, hmay, hsz⟩ := sized_all q hq1
  have hs32 : h ≤ 32 := by unfold mayN at hmay; omega
  obtain ⟨V, hV⟩ : ∃ V, sizedL xs h = V := ⟨_, rfl⟩
  have hvl : V.length = h := by rw [← hV]; exact sized_len _ _
  have hvs : Small V := by rw [← hV]; exact sized_small _ _ hxs
  obtain ⟨zr, hr⟩ : ∃ z, partI cosC V = z := ⟨_, rfl⟩
  obtain ⟨zi, hi⟩ : ∃ z, partI sinC V = z := ⟨_, rfl⟩
  have HP1 := hide (show partI cosC (turnL V (h : Int)) = wrap64 (0 - zr) by rw [part_neg cosC V h hvl hvs, hr])
  have HP2 := hide (show partI sinC (turnL V (h : Int)) = wrap64 (0 - zi) by rw [part_neg sinC V h hvl hvs, hi])
  have HV := hide hxl
  have HQ := hide hq
  have HSZ := hide hsz
  have HXN := hide hxn
  have HVE := hide hV
  have HVL := hide hvl
  have HM := hide hmay
  have HR := hide hr
  have HI := hide hi
  clear hx hxl hq hsz hxn hV hvl hq1 hxs hmay hr hi
  go_enter Tryd.func6, Tryd.ntmps6
  go_wp2_with fail
  refine (awake_any _ (unhide HQ)).mono ?_
  rintro e w1 ⟨rfl, hb⟩
  have HV1 := hide ((unhide HV).below hb)
  have HQ1 := hide ((unhide HQ).below hb)
  have HB1 := hide hb
  clear hb HV HQ
  go_wp2_with fail
  refine (unhide HSZ a n ca xs _ (unhide HV1) (unhide HXN)).mono ?_
  rintro e w2 ⟨g2, rfl, hg, hc, hb⟩
  have HV2 := hide ((unhide HV1).below hb)
  have HQ2 := hide ((unhide HQ1).below hb)
  have HB2 := hide (below_trans (unhide HB1) hb)
  have HA2 := hide hc
  clear hc hb HV1 HQ1 HB1
  have HAc := hide ((unhide HA2).lies)
  rw [unhide HVE] at HAc
  clear HA2
  clear HV2
  go_wp2_with fail
  refine (turn_told (some ⟨g2, 0, none⟩) h V h (h : Int) _ (unhide HAc) hvs (unhide HVL) (by omega) (by unfold In64; omega)).mono ?_
  rintro e w3 ht
  obtain ⟨a3, c3, rfl, hl, hb⟩ := told_len ht (show (turnL V (h : Int)).length = h by rw [turn_len]; exact unhide HVL)
  have HQ3 := hide ((unhide HQ2).below hb)
  have HB3 := hide (below_trans (unhide HB2) hb)
  have HA3 := hide ((unhide HAc).below hb)
  have HX3 := hide hl
  clear ht hl hb HQ2 HB2 HAc
  go_wp2_with fail
  refine (real_any a3 c3 h (turnL V (h : Int)) _ (unhide HX3) (turn_small _ _ hvs) (by rw [turn_len]; exact unhide HVL) (unhide HQ3)).mono ?_
  rintro e w4 ⟨rfl, hb⟩
  rw [unhide HP1]
  have HQ4 := hide ((unhide HQ3).below hb)
  have HB4 := hide (below_trans (unhide HB3) hb)
  have HA4 := hide ((unhide HA3).below hb)
  have HX4 := hide ((unhide HX3).below hb)
  clear hb HQ3 HB3 HA3 HX3
  go_wp2_with fail
  refine (real_any (some ⟨g2, 0, none⟩) h h V _ (unhide HA4) hvs (unhide HVL) (unhide HQ4)).mono ?_
  rintro e w5 ⟨rfl, hb⟩
  rw [unhide HR]
  have HQ5 := hide ((unhide HQ4).below hb)
  have HB5 := hide (below_trans (unhide HB4) hb)
  have HA5 := hide ((unhide HA4).below hb)
  have HX5 := hide ((unhide HX4).below hb)
  clear hb HQ4 HB4 HA4 HX4
  go_wp2_with fail
  refine (imag_any a3 c3 h (turnL V (h : Int)) _ (unhide HX5) (turn_small _ _ hvs) (by rw [turn_len]; exact unhide HVL) (unhide HQ5)).mono ?_
  rintro e w6 ⟨rfl, hb⟩
  rw [unhide HP2]
  have HQ6 := hide ((unhide HQ5).below hb)
  have HB6 := hide (below_trans (unhide HB5) hb)
  have HA6 := hide ((unhide HA5).below hb)
  have HX6 := hide ((unhide HX5).below hb)
  clear hb HQ5 HB5 HA5 HX5
  go_wp2_with fail
  refine (imag_any (some ⟨g2, 0, none⟩) h h V _ (unhide HA6) hvs (unhide HVL) (unhide HQ6)).mono ?_
  rintro e w7 ⟨rfl, hb⟩
  rw [unhide HI]
  have HQ7 := hide ((unhide HQ6).below hb)
  have HB7 := hide (below_trans (unhide HB6) hb)
  have HA7 := hide ((unhide HA6).below hb)
  have HX7 := hide ((unhide HX6).below hb)
  clear hb HQ6 HB6 HA6 HX6
  clear HX7
  by_cases h1 : h = 1
  · subst h1
    obtain ⟨x, hVx⟩ : ∃ x, V = [x] := by
      have := unhide HVL
      match V, this with
      | [x], _ => exact ⟨x, rfl⟩
    have HP := hide (part_one x)
    obtain ⟨bb, oo, heq, _, hca⟩ := (unhide HA7).some (by rw [hVx]; simp)
    cases heq
    have kx : w7.cell? ⟨g2, 0, none⟩ = some (.int .i64 x) := by have := hca 0 (by rw [hVx]; simp); rw [hVx] at this; exact this
    have HR2 := hide (show partI cosC V = wrap64 (16384 * x) by rw [hVx]; exact (unhide HP).1)
    have HI2 := hide (show partI sinC V = 0 by rw [hVx]; exact (unhide HP).2)
    have hlt0 : g2 < w7.heap.size := lt_of_cell kx
    have keep : ∀ {w' : World}, Below w7.heap.size w7 w' → w'.cell? ⟨g2, 0, none⟩ = some (.int .i64 x) := fun h => (h.cell (p := ⟨g2, 0, none⟩) hlt0).trans kx
    have v1 := hide (show Lies w7.drew (some ⟨g2, 0, none⟩) V from (unhide HA7))
    have v2 := hide (show Quar w7.drew from (unhide HQ7))
    have hw : IntKind.i64.wrap (16384 * x) = wrap64 (16384 * x) := by rw [IntKind.wrap_i64]; unfold wrap64; rfl
    clear hca hVx HP
    go_wp2
    go_region_held3 (fun w' => w'.cell? ⟨g2, 0, none⟩ = some (.int .i64 x)) (first | exact kx | exact keep hbu' | exact keep hbt' | assumption)
      (first
        | (go_at_call 16; (with_reducible refine (real_any (some ⟨g2, 0, none⟩) 1 1 V w7.drew (unhide v1) hvs (unhide HVL) (unhide v2)).mono ?_); rintro e wt ⟨rfl, hbt⟩; rw [unhide HR2]; have hbt' := undrew hbt)
        | (go_at_call 17; (with_reducible refine (imag_any (some ⟨g2, 0, none⟩) 1 1 V wt ((unhide HA7).below hbt') hvs (unhide HVL) ((unhide HQ7).below hbt')).mono ?_); rintro e wu ⟨rfl, hbu⟩; rw [unhide HI2]; have hbu' := below_trans hbt' hbu))
    go_wp2
    go_ret
    exact ⟨rfl, below_trans (unhide HB7) hbu'⟩
  · obtain ⟨mm, hmm, hmay⟩ : ∃ mm, h = 2 * mm ∧ mayN (2 * mm) := by
      have := unhide HM
      refine ⟨h / 2, by unfold mayN at this; omega, by unfold mayN at this ⊢; omega⟩
    have HH2 := hide (show (h : Int) / 2 = (mm : Int) by omega)
    have HQ1 := hide (show partI cosC (turnL V (mm : Int)) = zi by rw [quarter_real V mm (by rw [unhide HVL]; exact hmm) hvs hmay]; exact unhide HI)
    have HQ2 := hide (show partI sinC (turnL V (mm : Int)) = wrap64 (0 - zr) by rw [quarter_imag V mm (by rw [unhide HVL]; exact hmm) hvs hmay, unhide HR])
    clear hmay
    have hmb : mm ≤ 16 := by omega
    clear hmm
    have hne : ((h : Int) == 1) = false := by simp; omega
    go_wp2_with fail
    rw [unhide HH2]
    refine (turn_told (some ⟨g2, 0, none⟩) h V h (mm : Int) _ (unhide HA7) hvs (unhide HVL) (by omega) (by unfold In64; omega)).mono ?_
    rintro e w8 ht
    obtain ⟨a8, c8, rfl, hl, hb⟩ := told_len ht (show (turnL V (mm : Int)).length = h by rw [turn_len]; exact unhide HVL)
    have HQ8 := hide ((unhide HQ7).below hb)
    have HB8 := hide (below_trans (unhide HB7) hb)
    have HA8 := hide ((unhide HA7).below hb)
    have HX8 := hide hl
    clear ht hl hb HQ7 HB7 HA7
    go_wp2_with fail
    refine (real_any a8 c8 h (turnL V (mm : Int)) _ (unhide HX8) (turn_small _ _ hvs) (by rw [turn_len]; exact unhide HVL) (unhide HQ8)).mono ?_
    rintro e w9 ⟨rfl, hb⟩
    rw [unhide HQ1]
    have HQ9 := hide ((unhide HQ8).below hb)
    have HB9 := hide (below_trans (unhide HB8) hb)
    have HA9 := hide ((unhide HA8).below hb)
    have HX9 := hide ((unhide HX8).below hb)
    clear hb HQ8 HB8 HA8 HX8
    go_wp2_with fail
    refine (imag_any (some ⟨g2, 0, none⟩) h h V _ (unhide HA9) hvs (unhide HVL) (unhide HQ9)).mono ?_
    rintro e w10 ⟨rfl, hb⟩
    rw [unhide HI]
    have HQ10 := hide ((unhide HQ9).below hb)
    have HB10 := hide (below_trans (unhide HB9) hb)
    have HA10 := hide ((unhide HA9).below hb)
    have HX10 := hide ((unhide HX9).below hb)
    clear hb HQ9 HB9 HA9 HX9
    go_wp2_with fail
    refine (imag_any a8 c8 h (turnL V (mm : Int)) _ (unhide HX10) (turn_small _ _ hvs) (by rw [turn_len]; exact unhide HVL) (unhide HQ10)).mono ?_
    rintro e w11 ⟨rfl, hb⟩
    rw [unhide HQ2]
    have HQ11 := hide ((unhide HQ10).below hb)
    have HB11 := hide (below_trans (unhide HB10) hb)
    have HA11 := hide ((unhide HA10).below hb)
    have HX11 := hide ((unhide HX10).below hb)
    clear hb HQ10 HB10 HA10 HX10
    go_wp2_with fail
    refine (real_any (some ⟨g2, 0, none⟩) h h V _ (unhide HA11) hvs (unhide HVL) (unhide HQ11)).mono ?_
    rintro e w12 ⟨rfl, hb⟩
    rw [unhide HR]
    have HQ12 := hide ((unhide HQ11).below hb)
    have HB12 := hide (below_trans (unhide HB11) hb)
    have HA12 := hide ((unhide HA11).below hb)
    have HX12 := hide ((unhide HX11).below hb)
    clear hb HQ11 HB11 HA11 HX11
    go_wp2
    go_ret
    exact ⟨rfl, (unhide HB12)⟩
end Go.Proofs.YtcnpbkgnoeoccaaDoor
