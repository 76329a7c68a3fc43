/- SpinSums returns true. -/
import Derived.Test.YtcnpbkgnoeoccaaDoorTells
namespace Go.Proofs.YtcnpbkgnoeoccaaDoor
open Go.RowKit
set_option linter.unusedVariables false

set_option maxRecDepth 100000 in
set_option maxHeartbeats 6400000 in
theorem sums_walk (a b : Option Addr) (n ca m cb : Nat) (zx zy : List Int) (q0 q1 : Int) (w : World) (hx : IsRow .i64 w a n ca zx) (hy : IsRow .i64 w b m cb zy) (h0 : In64 q0) (h1 : In64 q1) (hq : Quar w) :
    Calls Tryd.prog 5 #[.slice a n ca, .slice b m cb, .agg #[.int .i64 q0, .int .i64 q1]] w fun e w' => e = .returned (.bool true) ∧ Below w.heap.size w w' := by
  obtain ⟨xs, hxn, hxl, hxs⟩ := row_whole a n ca zx w hx
  obtain ⟨ys, hyn, hyl, hyss⟩ := row_whole b m cb zy w hy
  obtain ⟨h, hmay, hsz⟩ := sized_all q1 h1
  have hs32 : h ≤ 32 := by unfold mayN at hmay; omega
  obtain ⟨V, hV⟩ : ∃ V, sizedL xs h = V := ⟨_, rfl⟩
  obtain ⟨Y, hY⟩ : ∃ Y, sizedL ys h = Y := ⟨_, rfl⟩
  have hvl : V.length = h := by rw [← hV]; exact sized_len _ _
  have hyl2 : Y.length = h := by rw [← hY]; exact sized_len _ _
  have hvs : Small V := by rw [← hV]; exact sized_small _ _ hxs
  have hys : Small Y := by rw [← hY]; exact sized_small _ _ hyss
  have hVY : V.length = Y.length := by omega
  obtain ⟨r1, hr1⟩ : ∃ z, partI cosC V = z := ⟨_, rfl⟩
  obtain ⟨r2, hr2⟩ : ∃ z, partI cosC Y = z := ⟨_, rfl⟩
  obtain ⟨i1, hi1⟩ : ∃ z, partI sinC V = z := ⟨_, rfl⟩
  obtain ⟨i2, hi2⟩ : ∃ z, partI sinC Y = z := ⟨_, rfl⟩
  have HV := hide hxl
  have HY := hide hyl
  have HQ := hide hq
  have HSZ := hide hsz
  have HXN := hide hxn
  have HYN := hide hyn
  have HVE := hide hV
  have HYE := hide hY
  have HVL := hide hvl
  have HYL := hide hyl2
  have HK := hide h0
  have HS2 := hide (show sum2 V Y = add2 V Y by unfold sum2; rw [if_pos hVY.symm])
  have HSL := hide (show (sum2 V Y).length = h by rw [unhide HS2, add2_len]; exact hvl)
  have HSL2 := hide (show (add2 V Y).length = h by rw [add2_len]; exact hvl)
  have HD2 := hide (show less2 V Y = lessL V Y by unfold less2; rw [if_pos hVY.symm])
  have HDL := hide (show (less2 V Y).length = h by rw [unhide HD2, less_len]; exact hvl)
  have HDL2 := hide (show (lessL V Y).length = h by rw [less_len]; exact hvl)
  have HT1 := hide (show sum2 (turnL V q0) (turnL Y q0) = turnL (add2 V Y) q0 by unfold sum2; rw [turn_len, turn_len, if_pos hVY.symm, turn_add V Y q0 hVY])
  have HT1L := hide (show (sum2 (turnL V q0) (turnL Y q0)).length = h by rw [unhide HT1, turn_len]; exact unhide HSL2)
  have HT2 := hide (show less2 (turnL V q0) (turnL Y q0) = turnL (lessL V Y) q0 by unfold less2; rw [turn_len, turn_len, if_pos hVY.symm, turn_less V Y q0 hVY hys])
  have HT2L := hide (show (less2 (turnL V q0) (turnL Y q0)).length = h by rw [unhide HT2, turn_len]; exact unhide HDL2)
  have HT3 := hide (show sum2 Y V = add2 V Y by unfold sum2; rw [if_pos hVY, add2_comm V Y hVY])
  have HT3L := hide (show (sum2 Y V).length = h by rw [unhide HT3]; exact unhide HSL2)
  have HT4 := hide (show sum3 V Y (lessL V Y) = add2 V V by unfold sum3; rw [if_pos ⟨hVY.symm, less_len V Y⟩, add_four V Y hVY hys])
  have HT4L := hide (show (sum3 V Y (lessL V Y)).length = h by rw [unhide HT4, add2_len]; exact hvl)
  have HT5 := hide (show sum2 V V = add2 V V by unfold sum2; rw [if_pos rfl])
  have HT5L := hide (show (sum2 V V).length = h by rw [unhide HT5, add2_len]; exact hvl)
  have HRS := hide (show partI cosC (add2 V Y) = wrap64 (r1 + r2) by rw [part_add cosC V Y hVY, hr1, hr2])
  have HID := hide (show partI sinC (lessL V Y) = wrap64 (i1 - i2) by rw [part_less sinC V Y hVY hys, hi1, hi2])
  have HR1 := hide hr1
  have HR2 := hide hr2
  have HI1 := hide hi1
  have HI2 := hide hi2
  clear hx hy hxl hyl hq hsz hxn hyn hV hY hvl hyl2 h0 h1 hVY hxs hyss hmay hr1 hr2 hi1 hi2
  go_enter Tryd.func5, Tryd.ntmps5
  have HB0 := hide (alloc_below w (.cells #[.int .i64 q0, .int .i64 q1] 23))
  have HV0 := hide ((unhide HV).below (unhide HB0))
  have HY0 := hide ((unhide HY).below (unhide HB0))
  have HQ0 := hide ((unhide HQ).below (unhide HB0))
  have HC0 := hide (cells_new w [.int .i64 q0, .int .i64 q1] 23)
  clear HV HY HQ
  go_wp2_with fail
  refine (awake_any _ (unhide HQ0)).mono ?_
  rintro e w1 ⟨rfl, hb⟩
  have HV1 := hide ((unhide HV0).below hb)
  have HY1 := hide ((unhide HY0).below hb)
  have HQ1 := hide ((unhide HQ0).below hb)
  have HB1 := hide (below_trans (unhide HB0) hb)
  have HC1 := hide ((unhide HC0).below hb)
  clear hb HV0 HY0 HQ0 HB0 HC0
  have k0 := (unhide HC1).cell 0 _ rfl
  have k1 := (unhide HC1).cell 1 _ rfl
  go_wp2_with fail
  clear k0 k1
  refine (unhide HSZ a n ca xs _ (unhide HV1) (unhide HXN)).mono ?_
  rintro e w2 ⟨g2, rfl, hg, hc, hb⟩
  have HV2 := hide ((unhide HV1).below hb)
  have HY2 := hide ((unhide HY1).below hb)
  have HQ2 := hide ((unhide HQ1).below hb)
  have HB2 := hide (below_trans (unhide HB1) hb)
  have HC2 := hide ((unhide HC1).below hb)
  have HA2 := hide hc
  clear hc hb HV1 HY1 HQ1 HB1 HC1
  have HAc := hide ((unhide HA2).lies)
  rw [unhide HVE] at HAc
  clear HA2
  have k0 := (unhide HC2).cell 0 _ rfl
  have k1 := (unhide HC2).cell 1 _ rfl
  go_wp2_with fail
  clear k0 k1
  refine (unhide HSZ b m cb ys _ (unhide HY2) (unhide HYN)).mono ?_
  rintro e w3 ⟨g3, rfl, hg, hc, hb⟩
  have HV3 := hide ((unhide HV2).below hb)
  have HY3 := hide ((unhide HY2).below hb)
  have HQ3 := hide ((unhide HQ2).below hb)
  have HB3 := hide (below_trans (unhide HB2) hb)
  have HC3 := hide ((unhide HC2).below hb)
  have HA3 := hide ((unhide HAc).below hb)
  have HE3 := hide hc
  clear hc hb HV2 HY2 HQ2 HB2 HC2 HAc
  have HEc := hide ((unhide HE3).lies)
  rw [unhide HYE] at HEc
  clear HE3
  clear HV3 HY3
  have k0 := (unhide HC3).cell 0 _ rfl
  have k1 := (unhide HC3).cell 1 _ rfl
  go_wp2_with fail
  clear k0 k1
  refine (add_two (some ⟨g2, 0, none⟩) (some ⟨g3, 0, none⟩) h h h h V Y _ _ (Below.refl _ _) (unhide HA3) (unhide HEc) hvs (unhide HVL) (unhide HYL) (by omega)).mono ?_
  rintro e w4 ht
  obtain ⟨a4, c4, rfl, hl, hb⟩ := told_len ht (unhide HSL)
  have HQ4 := hide ((unhide HQ3).below hb)
  have HB4 := hide (below_trans (unhide HB3) hb)
  have HC4 := hide ((unhide HC3).below hb)
  have HA4 := hide ((unhide HA3).below hb)
  have HE4 := hide ((unhide HEc).below hb)
  have HS4 := hide hl
  clear ht hl hb HQ3 HB3 HC3 HA3 HEc
  rw [unhide HS2] at HS4
  clear HC4
  go_wp2_with fail
  refine (less_any (some ⟨g2, 0, none⟩) (some ⟨g3, 0, none⟩) h h h h V Y _ (unhide HA4) (unhide HE4) hvs hys (unhide HVL) (unhide HYL) (by omega) (by omega)).mono ?_
  rintro e w5 ht
  obtain ⟨a5, c5, rfl, hl, hb⟩ := told_len ht (unhide HDL)
  have HQ5 := hide ((unhide HQ4).below hb)
  have HB5 := hide (below_trans (unhide HB4) hb)
  have HA5 := hide ((unhide HA4).below hb)
  have HE5 := hide ((unhide HE4).below hb)
  have HS5 := hide ((unhide HS4).below hb)
  have HD5 := hide hl
  clear ht hl hb HQ4 HB4 HA4 HE4 HS4
  rw [unhide HD2] at HD5
  go_wp2_with fail
  refine (turn_told a4 c4 (add2 V Y) h q0 _ (unhide HS5) (add2_small _ _) (unhide HSL2) (by omega) (unhide HK)).mono ?_
  rintro e w6 ht
  obtain ⟨a6, c6, rfl, hl, hb⟩ := told_len ht (show (turnL (add2 V Y) q0).length = h by rw [turn_len]; exact unhide HSL2)
  have HQ6 := hide ((unhide HQ5).below hb)
  have HB6 := hide (below_trans (unhide HB5) hb)
  have HA6 := hide ((unhide HA5).below hb)
  have HE6 := hide ((unhide HE5).below hb)
  have HS6 := hide ((unhide HS5).below hb)
  have HD6 := hide ((unhide HD5).below hb)
  have HX16 := hide hl
  clear ht hl hb HQ5 HB5 HA5 HE5 HS5 HD5
  go_wp2_with fail
  refine (turn_told (some ⟨g2, 0, none⟩) h V h q0 _ (unhide HA6) hvs (unhide HVL) (by omega) (unhide HK)).mono ?_
  rintro e w7 ht
  obtain ⟨a7, c7, rfl, hl, hb⟩ := told_len ht (show (turnL V q0).length = h by rw [turn_len]; exact unhide HVL)
  have HQ7 := hide ((unhide HQ6).below hb)
  have HB7 := hide (below_trans (unhide HB6) hb)
  have HA7 := hide ((unhide HA6).below hb)
  have HE7 := hide ((unhide HE6).below hb)
  have HS7 := hide ((unhide HS6).below hb)
  have HD7 := hide ((unhide HD6).below hb)
  have HX17 := hide ((unhide HX16).below hb)
  have HX27 := hide hl
  clear ht hl hb HQ6 HB6 HA6 HE6 HS6 HD6 HX16
  go_wp2_with fail
  refine (turn_told (some ⟨g3, 0, none⟩) h Y h q0 _ (unhide HE7) hys (unhide HYL) (by omega) (unhide HK)).mono ?_
  rintro e w8 ht
  obtain ⟨a8, c8, rfl, hl, hb⟩ := told_len ht (show (turnL Y q0).length = h by rw [turn_len]; exact unhide HYL)
  have HQ8 := hide ((unhide HQ7).below hb)
  have HB8 := hide (below_trans (unhide HB7) hb)
  have HA8 := hide ((unhide HA7).below hb)
  have HE8 := hide ((unhide HE7).below hb)
  have HS8 := hide ((unhide HS7).below hb)
  have HD8 := hide ((unhide HD7).below hb)
  have HX18 := hide ((unhide HX17).below hb)
  have HX28 := hide ((unhide HX27).below hb)
  have HX38 := hide hl
  clear ht hl hb HQ7 HB7 HA7 HE7 HS7 HD7 HX17 HX27
  go_wp2_with fail
  refine (add_two a7 a8 h h c7 c8 (turnL V q0) (turnL Y q0) _ _ (Below.refl _ _) (unhide HX28) (unhide HX38) (turn_small _ _ hvs) (by rw [turn_len]; exact unhide HVL) (by rw [turn_len]; exact unhide HYL) (by omega)).mono ?_
  rintro e w9 ht
  obtain ⟨a9, c9, rfl, hl, hb⟩ := told_len ht (unhide HT1L)
  have HQ9 := hide ((unhide HQ8).below hb)
  have HB9 := hide (below_trans (unhide HB8) hb)
  have HA9 := hide ((unhide HA8).below hb)
  have HE9 := hide ((unhide HE8).below hb)
  have HS9 := hide ((unhide HS8).below hb)
  have HD9 := hide ((unhide HD8).below hb)
  have HX19 := hide ((unhide HX18).below hb)
  have HX29 := hide ((unhide HX28).below hb)
  have HX39 := hide ((unhide HX38).below hb)
  have HX49 := hide hl
  clear ht hl hb HQ8 HB8 HA8 HE8 HS8 HD8 HX18 HX28 HX38
  rw [unhide HT1] at HX49
  go_wp2_with fail
  refine (same_any a6 a9 c6 c9 (turnL (add2 V Y) q0) h (by rw [turn_len]; exact unhide HSL2) (by omega) _ (unhide HX19) (unhide HX49)).mono ?_
  rintro e w10 ⟨rfl, hb⟩
  have HQ10 := hide ((unhide HQ9).below hb)
  have HB10 := hide (below_trans (unhide HB9) hb)
  have HA10 := hide ((unhide HA9).below hb)
  have HE10 := hide ((unhide HE9).below hb)
  have HS10 := hide ((unhide HS9).below hb)
  have HD10 := hide ((unhide HD9).below hb)
  have HX110 := hide ((unhide HX19).below hb)
  have HX210 := hide ((unhide HX29).below hb)
  have HX310 := hide ((unhide HX39).below hb)
  have HX410 := hide ((unhide HX49).below hb)
  clear hb HQ9 HB9 HA9 HE9 HS9 HD9 HX19 HX29 HX39 HX49
  clear HX110 HX210 HX310 HX410
  go_wp2_with fail
  refine (turn_told a5 c5 (lessL V Y) h q0 _ (unhide HD10) (add2_small _ _) (unhide HDL2) (by omega) (unhide HK)).mono ?_
  rintro e w11 ht
  obtain ⟨a11, c11, rfl, hl, hb⟩ := told_len ht (show (turnL (lessL V Y) q0).length = h by rw [turn_len]; exact unhide HDL2)
  have HQ11 := hide ((unhide HQ10).below hb)
  have HB11 := hide (below_trans (unhide HB10) hb)
  have HA11 := hide ((unhide HA10).below hb)
  have HE11 := hide ((unhide HE10).below hb)
  have HS11 := hide ((unhide HS10).below hb)
  have HD11 := hide ((unhide HD10).below hb)
  have HX111 := hide hl
  clear ht hl hb HQ10 HB10 HA10 HE10 HS10 HD10
  go_wp2_with fail
  refine (turn_told (some ⟨g2, 0, none⟩) h V h q0 _ (unhide HA11) hvs (unhide HVL) (by omega) (unhide HK)).mono ?_
  rintro e w12 ht
  obtain ⟨a12, c12, rfl, hl, hb⟩ := told_len ht (show (turnL V q0).length = h by rw [turn_len]; exact unhide HVL)
  have HQ12 := hide ((unhide HQ11).below hb)
  have HB12 := hide (below_trans (unhide HB11) hb)
  have HA12 := hide ((unhide HA11).below hb)
  have HE12 := hide ((unhide HE11).below hb)
  have HS12 := hide ((unhide HS11).below hb)
  have HD12 := hide ((unhide HD11).below hb)
  have HX112 := hide ((unhide HX111).below hb)
  have HX212 := hide hl
  clear ht hl hb HQ11 HB11 HA11 HE11 HS11 HD11 HX111
  go_wp2_with fail
  refine (turn_told (some ⟨g3, 0, none⟩) h Y h q0 _ (unhide HE12) hys (unhide HYL) (by omega) (unhide HK)).mono ?_
  rintro e w13 ht
  obtain ⟨a13, c13, rfl, hl, hb⟩ := told_len ht (show (turnL Y q0).length = h by rw [turn_len]; exact unhide HYL)
  have HQ13 := hide ((unhide HQ12).below hb)
  have HB13 := hide (below_trans (unhide HB12) hb)
  have HA13 := hide ((unhide HA12).below hb)
  have HE13 := hide ((unhide HE12).below hb)
  have HS13 := hide ((unhide HS12).below hb)
  have HD13 := hide ((unhide HD12).below hb)
  have HX113 := hide ((unhide HX112).below hb)
  have HX213 := hide ((unhide HX212).below hb)
  have HX313 := hide hl
  clear ht hl hb HQ12 HB12 HA12 HE12 HS12 HD12 HX112 HX212
  go_wp2_with fail
  refine (less_any a12 a13 h h c12 c13 (turnL V q0) (turnL Y q0) _ (unhide HX213) (unhide HX313) (turn_small _ _ hvs) (turn_small _ _ hys) (by rw [turn_len]; exact unhide HVL) (by rw [turn_len]; exact unhide HYL) (by omega) (by omega)).mono ?_
  rintro e w14 ht
  obtain ⟨a14, c14, rfl, hl, hb⟩ := told_len ht (unhide HT2L)
  have HQ14 := hide ((unhide HQ13).below hb)
  have HB14 := hide (below_trans (unhide HB13) hb)
  have HA14 := hide ((unhide HA13).below hb)
  have HE14 := hide ((unhide HE13).below hb)
  have HS14 := hide ((unhide HS13).below hb)
  have HD14 := hide ((unhide HD13).below hb)
  have HX114 := hide ((unhide HX113).below hb)
  have HX214 := hide ((unhide HX213).below hb)
  have HX314 := hide ((unhide HX313).below hb)
  have HX414 := hide hl
  clear ht hl hb HQ13 HB13 HA13 HE13 HS13 HD13 HX113 HX213 HX313
  rw [unhide HT2] at HX414
  go_wp2_with fail
  refine (same_any a11 a14 c11 c14 (turnL (lessL V Y) q0) h (by rw [turn_len]; exact unhide HDL2) (by omega) _ (unhide HX114) (unhide HX414)).mono ?_
  rintro e w15 ⟨rfl, hb⟩
  have HQ15 := hide ((unhide HQ14).below hb)
  have HB15 := hide (below_trans (unhide HB14) hb)
  have HA15 := hide ((unhide HA14).below hb)
  have HE15 := hide ((unhide HE14).below hb)
  have HS15 := hide ((unhide HS14).below hb)
  have HD15 := hide ((unhide HD14).below hb)
  have HX115 := hide ((unhide HX114).below hb)
  have HX215 := hide ((unhide HX214).below hb)
  have HX315 := hide ((unhide HX314).below hb)
  have HX415 := hide ((unhide HX414).below hb)
  clear hb HQ14 HB14 HA14 HE14 HS14 HD14 HX114 HX214 HX314 HX414
  clear HX115 HX215 HX315 HX415
  go_wp2_with fail
  refine (add_two (some ⟨g3, 0, none⟩) (some ⟨g2, 0, none⟩) h h h h Y V _ _ (Below.refl _ _) (unhide HE15) (unhide HA15) hys (unhide HYL) (unhide HVL) (by omega)).mono ?_
  rintro e w16 ht
  obtain ⟨a16, c16, rfl, hl, hb⟩ := told_len ht (unhide HT3L)
  have HQ16 := hide ((unhide HQ15).below hb)
  have HB16 := hide (below_trans (unhide HB15) hb)
  have HA16 := hide ((unhide HA15).below hb)
  have HE16 := hide ((unhide HE15).below hb)
  have HS16 := hide ((unhide HS15).below hb)
  have HD16 := hide ((unhide HD15).below hb)
  have HX116 := hide hl
  clear ht hl hb HQ15 HB15 HA15 HE15 HS15 HD15
  rw [unhide HT3] at HX116
  go_wp2_with fail
  refine (same_any a16 a4 c16 c4 (add2 V Y) h (unhide HSL2) (by omega) _ (unhide HX116) (unhide HS16)).mono ?_
  rintro e w17 ⟨rfl, hb⟩
  have HQ17 := hide ((unhide HQ16).below hb)
  have HB17 := hide (below_trans (unhide HB16) hb)
  have HA17 := hide ((unhide HA16).below hb)
  have HE17 := hide ((unhide HE16).below hb)
  have HS17 := hide ((unhide HS16).below hb)
  have HD17 := hide ((unhide HD16).below hb)
  have HX117 := hide ((unhide HX116).below hb)
  clear hb HQ16 HB16 HA16 HE16 HS16 HD16 HX116
  clear HX117
  go_wp2_with fail
  refine (add_three (some ⟨g2, 0, none⟩) (some ⟨g3, 0, none⟩) a5 h h h h h c5 V Y (lessL V Y) _ _ (Below.refl _ _) (unhide HA17) (unhide HE17) (unhide HD17) hvs (unhide HVL) (unhide HYL) (unhide HDL2) (by omega)).mono ?_
  rintro e w18 ht
  obtain ⟨a18, c18, rfl, hl, hb⟩ := told_len ht (unhide HT4L)
  have HQ18 := hide ((unhide HQ17).below hb)
  have HB18 := hide (below_trans (unhide HB17) hb)
  have HA18 := hide ((unhide HA17).below hb)
  have HE18 := hide ((unhide HE17).below hb)
  have HS18 := hide ((unhide HS17).below hb)
  have HD18 := hide ((unhide HD17).below hb)
  have HX118 := hide hl
  clear ht hl hb HQ17 HB17 HA17 HE17 HS17 HD17
  rw [unhide HT4] at HX118
  go_wp2_with fail
  refine (add_two (some ⟨g2, 0, none⟩) (some ⟨g2, 0, none⟩) h h h h V V _ _ (Below.refl _ _) (unhide HA18) (unhide HA18) hvs (unhide HVL) (unhide HVL) (by omega)).mono ?_
  rintro e w19 ht
  obtain ⟨a19, c19, rfl, hl, hb⟩ := told_len ht (unhide HT5L)
  have HQ19 := hide ((unhide HQ18).below hb)
  have HB19 := hide (below_trans (unhide HB18) hb)
  have HA19 := hide ((unhide HA18).below hb)
  have HE19 := hide ((unhide HE18).below hb)
  have HS19 := hide ((unhide HS18).below hb)
  have HD19 := hide ((unhide HD18).below hb)
  have HX119 := hide ((unhide HX118).below hb)
  have HX219 := hide hl
  clear ht hl hb HQ18 HB18 HA18 HE18 HS18 HD18 HX118
  rw [unhide HT5] at HX219
  go_wp2_with fail
  refine (same_any a18 a19 c18 c19 (add2 V V) h (by rw [add2_len]; exact unhide HVL) (by omega) _ (unhide HX119) (unhide HX219)).mono ?_
  rintro e w20 ⟨rfl, hb⟩
  have HQ20 := hide ((unhide HQ19).below hb)
  have HB20 := hide (below_trans (unhide HB19) hb)
  have HA20 := hide ((unhide HA19).below hb)
  have HE20 := hide ((unhide HE19).below hb)
  have HS20 := hide ((unhide HS19).below hb)
  have HD20 := hide ((unhide HD19).below hb)
  have HX120 := hide ((unhide HX119).below hb)
  have HX220 := hide ((unhide HX219).below hb)
  clear hb HQ19 HB19 HA19 HE19 HS19 HD19 HX119 HX219
  clear HX120 HX220
  go_wp2_with fail
  refine (real_any a4 c4 h (add2 V Y) _ (unhide HS20) (add2_small _ _) (unhide HSL2) (unhide HQ20)).mono ?_
  rintro e w21 ⟨rfl, hb⟩
  rw [unhide HRS]
  have HQ21 := hide ((unhide HQ20).below hb)
  have HB21 := hide (below_trans (unhide HB20) hb)
  have HA21 := hide ((unhide HA20).below hb)
  have HE21 := hide ((unhide HE20).below hb)
  have HS21 := hide ((unhide HS20).below hb)
  have HD21 := hide ((unhide HD20).below hb)
  clear hb HQ20 HB20 HA20 HE20 HS20 HD20
  go_wp2_with fail
  refine (real_any (some ⟨g2, 0, none⟩) h h V _ (unhide HA21) hvs (unhide HVL) (unhide HQ21)).mono ?_
  rintro e w22 ⟨rfl, hb⟩
  rw [unhide HR1]
  have HQ22 := hide ((unhide HQ21).below hb)
  have HB22 := hide (below_trans (unhide HB21) hb)
  have HA22 := hide ((unhide HA21).below hb)
  have HE22 := hide ((unhide HE21).below hb)
  have HS22 := hide ((unhide HS21).below hb)
  have HD22 := hide ((unhide HD21).below hb)
  clear hb HQ21 HB21 HA21 HE21 HS21 HD21
  go_wp2_with fail
  refine (real_any (some ⟨g3, 0, none⟩) h h Y _ (unhide HE22) hys (unhide HYL) (unhide HQ22)).mono ?_
  rintro e w23 ⟨rfl, hb⟩
  rw [unhide HR2]
  have HQ23 := hide ((unhide HQ22).below hb)
  have HB23 := hide (below_trans (unhide HB22) hb)
  have HA23 := hide ((unhide HA22).below hb)
  have HE23 := hide ((unhide HE22).below hb)
  have HS23 := hide ((unhide HS22).below hb)
  have HD23 := hide ((unhide HD22).below hb)
  clear hb HQ22 HB22 HA22 HE22 HS22 HD22
  go_wp2_with fail
  refine (imag_any a5 c5 h (lessL V Y) _ (unhide HD23) (add2_small _ _) (unhide HDL2) (unhide HQ23)).mono ?_
  rintro e w24 ⟨rfl, hb⟩
  rw [unhide HID]
  have HQ24 := hide ((unhide HQ23).below hb)
  have HB24 := hide (below_trans (unhide HB23) hb)
  have HA24 := hide ((unhide HA23).below hb)
  have HE24 := hide ((unhide HE23).below hb)
  have HS24 := hide ((unhide HS23).below hb)
  have HD24 := hide ((unhide HD23).below hb)
  clear hb HQ23 HB23 HA23 HE23 HS23 HD23
  go_wp2_with fail
  refine (imag_any (some ⟨g2, 0, none⟩) h h V _ (unhide HA24) hvs (unhide HVL) (unhide HQ24)).mono ?_
  rintro e w25 ⟨rfl, hb⟩
  rw [unhide HI1]
  have HQ25 := hide ((unhide HQ24).below hb)
  have HB25 := hide (below_trans (unhide HB24) hb)
  have HA25 := hide ((unhide HA24).below hb)
  have HE25 := hide ((unhide HE24).below hb)
  have HS25 := hide ((unhide HS24).below hb)
  have HD25 := hide ((unhide HD24).below hb)
  clear hb HQ24 HB24 HA24 HE24 HS24 HD24
  go_wp2_with fail
  refine (imag_any (some ⟨g3, 0, none⟩) h h Y _ (unhide HE25) hys (unhide HYL) (unhide HQ25)).mono ?_
  rintro e w26 ⟨rfl, hb⟩
  rw [unhide HI2]
  have HQ26 := hide ((unhide HQ25).below hb)
  have HB26 := hide (below_trans (unhide HB25) hb)
  have HA26 := hide ((unhide HA25).below hb)
  have HE26 := hide ((unhide HE25).below hb)
  have HS26 := hide ((unhide HS25).below hb)
  have HD26 := hide ((unhide HD25).below hb)
  clear hb HQ25 HB25 HA25 HE25 HS25 HD25
  go_wp2
  go_ret
  exact ⟨rfl, (unhide HB26)⟩
end Go.Proofs.YtcnpbkgnoeoccaaDoor
