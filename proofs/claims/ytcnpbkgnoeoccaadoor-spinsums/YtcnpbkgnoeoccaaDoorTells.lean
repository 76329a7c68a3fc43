/- SpinTells returns true. -/
import Derived.Test.YtcnpbkgnoeoccaaDoorWake
namespace Go.Proofs.YtcnpbkgnoeoccaaDoor
open Go.RowKit
set_option linter.unusedVariables false

theorem sum2_len (xs ys : List Int) : (sum2 xs ys).length ≤ xs.length := by unfold sum2; split <;> simp [add2_len]
theorem less2_len (xs ys : List Int) : (less2 xs ys).length ≤ xs.length := by unfold less2; split <;> simp [less_len]

set_option maxRecDepth 100000 in
set_option maxHeartbeats 3200000 in
theorem tells_any (a b : Option Addr) (n m ca cb : Nat) (xs ys : List Int) (k : Int) (w : World) (ha : Lies w a xs) (hy : Lies w b ys) (hs : Small xs) (hsy : Small ys) (hn : xs.length = n) (hm : ys.length = m) (hnx : n ≤ 40) (hmx : m ≤ 40) (hk : In64 k) (hq : Quar w) :
    Calls Tryd.prog 10 #[.slice a n ca, .slice b m cb, .int .i64 k] w fun e w' => e = .returned (.bool true) ∧ Below w.heap.size w w' := by
  obtain ⟨l2, h2⟩ : ∃ l, (sum2 xs ys).length = l := ⟨_, rfl⟩
  obtain ⟨l3, h3⟩ : ∃ l, (less2 xs ys).length = l := ⟨_, rfl⟩
  have hl2 : l2 ≤ 40 := by have := sum2_len xs ys; omega
  have hl3 : l3 ≤ 40 := by have := less2_len xs ys; omega
  obtain ⟨zr, hr⟩ : ∃ z, partI cosC xs = z := ⟨_, rfl⟩
  obtain ⟨zi, hi⟩ : ∃ z, partI sinC xs = z := ⟨_, rfl⟩
  have HV := hide ha
  have HY := hide hy
  have HN := hide hn
  have HM := hide hm
  have HK := hide hk
  have HQ := hide hq
  have H2 := hide h2
  have H3 := hide h3
  have HR := hide hr
  have HI := hide hi
  clear ha hy hn hm hk hq h2 h3 hr hi
  go_enter Tryd.func10, Tryd.ntmps10
  go_wp2_with fail
  refine (turn_told a ca xs n k _ (unhide HV) hs (unhide HN) (by omega) (unhide HK)).mono ?_
  rintro e w1 ht
  obtain ⟨a1, c1, rfl, hl, hb⟩ := told_len ht (show (turnL xs k).length = n by rw [turn_len]; exact unhide HN)
  have HV1 := hide ((unhide HV).below hb)
  have HY1 := hide ((unhide HY).below hb)
  have HQ1 := hide ((unhide HQ).below hb)
  have HB1 := hide hb
  have HA1 := hide hl
  clear ht hl hb HV HY HQ
  go_wp2_with fail
  refine (rturn_any a ca xs n k _ (unhide HV1) hs (unhide HN) (by omega) (unhide HK)).mono ?_
  rintro e w2 ht
  obtain ⟨a2, c2, rfl, hl, hb⟩ := told_len ht (show (turnL xs k).length = n by rw [turn_len]; exact unhide HN)
  have HV2 := hide ((unhide HV1).below hb)
  have HY2 := hide ((unhide HY1).below hb)
  have HQ2 := hide ((unhide HQ1).below hb)
  have HB2 := hide (below_trans (unhide HB1) hb)
  have HA2 := hide ((unhide HA1).below hb)
  have HE2 := hide hl
  clear ht hl hb HV1 HY1 HQ1 HB1 HA1
  go_wp2_with fail
  refine (same_any a1 a2 c1 c2 (turnL xs k) n (by rw [turn_len]; exact unhide HN) (by omega) _ (unhide HA2) (unhide HE2)).mono ?_
  rintro e w3 ⟨rfl, hb⟩
  have HV3 := hide ((unhide HV2).below hb)
  have HY3 := hide ((unhide HY2).below hb)
  have HQ3 := hide ((unhide HQ2).below hb)
  have HB3 := hide (below_trans (unhide HB2) hb)
  have HA3 := hide ((unhide HA2).below hb)
  have HE3 := hide ((unhide HE2).below hb)
  clear hb HV2 HY2 HQ2 HB2 HA2 HE2
  clear HA3 HE3
  go_wp2_with fail
  refine (add_two a b n m ca cb xs ys _ _ (Below.refl _ _) (unhide HV3) (unhide HY3) hs (unhide HN) (unhide HM) (by omega)).mono ?_
  rintro e w4 ht
  obtain ⟨a4, c4, rfl, hl, hb⟩ := told_len ht (unhide H2)
  have HV4 := hide ((unhide HV3).below hb)
  have HY4 := hide ((unhide HY3).below hb)
  have HQ4 := hide ((unhide HQ3).below hb)
  have HB4 := hide (below_trans (unhide HB3) hb)
  have HA4 := hide hl
  clear ht hl hb HV3 HY3 HQ3 HB3
  go_wp2_with fail
  refine (radd_any a b n m ca cb xs ys _ (unhide HV4) (unhide HY4) (unhide HN) (unhide HM) (by omega) (by omega)).mono ?_
  rintro e w5 ht
  obtain ⟨a5, c5, rfl, hl, hb⟩ := told_len ht (unhide H2)
  have HV5 := hide ((unhide HV4).below hb)
  have HY5 := hide ((unhide HY4).below hb)
  have HQ5 := hide ((unhide HQ4).below hb)
  have HB5 := hide (below_trans (unhide HB4) hb)
  have HA5 := hide ((unhide HA4).below hb)
  have HE5 := hide hl
  clear ht hl hb HV4 HY4 HQ4 HB4 HA4
  go_wp2_with fail
  refine (same_any a4 a5 c4 c5 (sum2 xs ys) l2 (unhide H2) (by omega) _ (unhide HA5) (unhide HE5)).mono ?_
  rintro e w6 ⟨rfl, hb⟩
  have HV6 := hide ((unhide HV5).below hb)
  have HY6 := hide ((unhide HY5).below hb)
  have HQ6 := hide ((unhide HQ5).below hb)
  have HB6 := hide (below_trans (unhide HB5) hb)
  have HA6 := hide ((unhide HA5).below hb)
  have HE6 := hide ((unhide HE5).below hb)
  clear hb HV5 HY5 HQ5 HB5 HA5 HE5
  clear HA6 HE6
  go_wp2_with fail
  refine (less_any a b n m ca cb xs ys _ (unhide HV6) (unhide HY6) hs hsy (unhide HN) (unhide HM) (by omega) (by omega)).mono ?_
  rintro e w7 ht
  obtain ⟨a7, c7, rfl, hl, hb⟩ := told_len ht (unhide H3)
  have HV7 := hide ((unhide HV6).below hb)
  have HY7 := hide ((unhide HY6).below hb)
  have HQ7 := hide ((unhide HQ6).below hb)
  have HB7 := hide (below_trans (unhide HB6) hb)
  have HA7 := hide hl
  clear ht hl hb HV6 HY6 HQ6 HB6
  go_wp2_with fail
  refine (rless_any a b n m ca cb xs ys _ (unhide HV7) (unhide HY7) (unhide HN) (unhide HM) hsy (by omega) (by omega)).mono ?_
  rintro e w8 ht
  obtain ⟨a8, c8, rfl, hl, hb⟩ := told_len ht (unhide H3)
  have HV8 := hide ((unhide HV7).below hb)
  have HY8 := hide ((unhide HY7).below hb)
  have HQ8 := hide ((unhide HQ7).below hb)
  have HB8 := hide (below_trans (unhide HB7) hb)
  have HA8 := hide ((unhide HA7).below hb)
  have HE8 := hide hl
  clear ht hl hb HV7 HY7 HQ7 HB7 HA7
  go_wp2_with fail
  refine (same_any a7 a8 c7 c8 (less2 xs ys) l3 (unhide H3) (by omega) _ (unhide HA8) (unhide HE8)).mono ?_
  rintro e w9 ⟨rfl, hb⟩
  have HV9 := hide ((unhide HV8).below hb)
  have HY9 := hide ((unhide HY8).below hb)
  have HQ9 := hide ((unhide HQ8).below hb)
  have HB9 := hide (below_trans (unhide HB8) hb)
  have HA9 := hide ((unhide HA8).below hb)
  have HE9 := hide ((unhide HE8).below hb)
  clear hb HV8 HY8 HQ8 HB8 HA8 HE8
  clear HA9 HE9
  go_wp2_with fail
  refine (add_one a n ca xs _ _ (Below.refl _ _) (unhide HV9) hs (unhide HN) (by omega)).mono ?_
  rintro e w10 ht
  obtain ⟨a10, c10, rfl, hl, hb⟩ := told_len ht (unhide HN)
  have HV10 := hide ((unhide HV9).below hb)
  have HY10 := hide ((unhide HY9).below hb)
  have HQ10 := hide ((unhide HQ9).below hb)
  have HB10 := hide (below_trans (unhide HB9) hb)
  have HA10 := hide hl
  clear ht hl hb HV9 HY9 HQ9 HB9
  go_wp2_with fail
  refine (same_any a10 a c10 ca xs n (unhide HN) (by omega) _ (unhide HA10) (unhide HV10)).mono ?_
  rintro e w11 ⟨rfl, hb⟩
  have HV11 := hide ((unhide HV10).below hb)
  have HY11 := hide ((unhide HY10).below hb)
  have HQ11 := hide ((unhide HQ10).below hb)
  have HB11 := hide (below_trans (unhide HB10) hb)
  have HA11 := hide ((unhide HA10).below hb)
  clear hb HV10 HY10 HQ10 HB10 HA10
  clear HA11
  go_wp2_with fail
  refine (real_any a ca n xs _ (unhide HV11) hs (unhide HN) (unhide HQ11)).mono ?_
  rintro e w12 ⟨rfl, hb⟩
  rw [unhide HR]
  have HV12 := hide ((unhide HV11).below hb)
  have HY12 := hide ((unhide HY11).below hb)
  have HQ12 := hide ((unhide HQ11).below hb)
  have HB12 := hide (below_trans (unhide HB11) hb)
  clear hb HV11 HY11 HQ11 HB11
  go_wp2_with fail
  refine (rreal_any a ca n xs _ (unhide HV12) hs (unhide HN) (by omega)).mono ?_
  rintro e w13 ⟨rfl, hb⟩
  rw [unhide HR]
  have HV13 := hide ((unhide HV12).below hb)
  have HY13 := hide ((unhide HY12).below hb)
  have HQ13 := hide ((unhide HQ12).below hb)
  have HB13 := hide (below_trans (unhide HB12) hb)
  clear hb HV12 HY12 HQ12 HB12
  go_wp2_with fail
  refine (imag_any a ca n xs _ (unhide HV13) hs (unhide HN) (unhide HQ13)).mono ?_
  rintro e w14 ⟨rfl, hb⟩
  rw [unhide HI]
  have HV14 := hide ((unhide HV13).below hb)
  have HY14 := hide ((unhide HY13).below hb)
  have HQ14 := hide ((unhide HQ13).below hb)
  have HB14 := hide (below_trans (unhide HB13) hb)
  clear hb HV13 HY13 HQ13 HB13
  go_wp2_with fail
  refine (rimag_any a ca n xs _ (unhide HV14) hs (unhide HN) (by omega)).mono ?_
  rintro e w15 ⟨rfl, hb⟩
  rw [unhide HI]
  have HV15 := hide ((unhide HV14).below hb)
  have HY15 := hide ((unhide HY14).below hb)
  have HQ15 := hide ((unhide HQ14).below hb)
  have HB15 := hide (below_trans (unhide HB14) hb)
  clear hb HV14 HY14 HQ14 HB14
  go_wp2_with fail
  refine (add_none _).mono ?_
  rintro e w16 ⟨rfl, hb⟩
  have HV16 := hide ((unhide HV15).below hb)
  have HY16 := hide ((unhide HY15).below hb)
  have HQ16 := hide ((unhide HQ15).below hb)
  have HB16 := hide (below_trans (unhide HB15) hb)
  clear hb HV15 HY15 HQ15 HB15
  go_wp2
  go_ret
  exact ⟨rfl, (unhide HB16)⟩
/-- A row that came, as it is. -/
theorem row_whole (a : Option Addr) (len cap : Nat) (zs : List Int) (w : World) (h : IsRow .i64 w a len cap zs) : ∃ xs : List Int, xs.length = len ∧ Lies w a xs ∧ Small xs := by
  rcases h with ⟨rfl, rfl, rfl, rfl⟩ | ⟨x, rfl, hl, hm, hz, hcell, hwz⟩
  · exact ⟨[], rfl, .inl rfl, by intro x hx; simp at hx⟩
  · exact ⟨zs.take len, by rw [List.length_take]; omega, lies_of_row len (by omega) hcell, small_take len hwz⟩

set_option maxRecDepth 100000 in
set_option maxHeartbeats 3200000 in
theorem tells_walk (a b : Option Addr) (n ca m cb : Nat) (zx zy : List Int) (q0 q1 : Int) (w : World) (hx : IsRow .i64 w a n ca zx) (hy : IsRow .i64 w b m cb zy) (h0 : In64 q0) (h1 : In64 q1) (hq : Quar w) :
    Calls Tryd.prog 3 #[.slice a n ca, .slice b m cb, .agg #[.int .i64 q0, .int .i64 q1]] w fun e w' => e = .returned (.bool true) ∧ Below w.heap.size w w' := by
  obtain ⟨xs, hxn, hxl, hxs⟩ := row_whole a n ca zx w hx
  obtain ⟨ys, hyn, hyl, hys⟩ := row_whole b m cb zy w hy
  obtain ⟨s, hmay, hsx⟩ := sized_any a n ca xs q1 w hxl hxn h1
  obtain ⟨s', hmay', hsy⟩ := sized_any b m cb ys q1 w hyl hyn h1
  obtain ⟨fx, hf40, hfc, hfm, hfl, hfs, hfn, hfew⟩ := few_came a n ca zx w hx
  obtain ⟨fy, hg40, hgc, hgm, hgl, hgs, hgn, hgew⟩ := few_came b m cb zy w hy
  have hs32 : s ≤ 32 := by unfold mayN at hmay; omega
  have hs32' : s' ≤ 32 := by unfold mayN at hmay'; omega
  obtain ⟨nf, hnf⟩ : ∃ n, fx.length = n := ⟨_, rfl⟩
  obtain ⟨mf, hmf⟩ : ∃ n, fy.length = n := ⟨_, rfl⟩
  rw [hnf] at hfew hf40
  rw [hmf] at hgew hg40
  have HV := hide hfl
  have HY := hide hgl
  have HQ := hide hq
  have HSZ := hide hsx
  have HSW := hide hsy
  have HF := hide hfew
  have HG := hide hgew
  have HNF := hide hnf
  have HMF := hide hmf
  have H0 := hide h0
  have HXS := hide (sized_small xs s hxs)
  have HYS := hide (sized_small ys s' hys)
  clear hx hy hfl hgl hq hsx hsy hfew hgew hnf hmf h0 hxl hyl hxs hys hxn hyn h1 hmay hmay' hfc hfm hfn hgc hgm hgn
  go_enter Tryd.func3, Tryd.ntmps3
  have HB0 := hide (alloc_below w (.cells #[.int .i64 q0, .int .i64 q1] 23))
  have HV0 := hide ((unhide HV).below (unhide HB0))
  have HY0 := hide ((unhide HY).below (unhide HB0))
  have HQ0 := hide ((unhide HQ).below (unhide HB0))
  have HC0 := hide (cells_new w [.int .i64 q0, .int .i64 q1] 23)
  clear HV HY HQ
  go_wp2_with fail
  refine (awake_any _ (unhide HQ0)).mono ?_
  rintro e w1 ⟨rfl, hb⟩
  have HV1 := hide ((unhide HV0).below hb)
  have HY1 := hide ((unhide HY0).below hb)
  have HQ1 := hide ((unhide HQ0).below hb)
  have HB1 := hide (below_trans (unhide HB0) hb)
  have HC1 := hide ((unhide HC0).below hb)
  clear hb HV0 HY0 HQ0 HB0 HC0
  have k0 := (unhide HC1).cell 0 _ rfl
  have k1 := (unhide HC1).cell 1 _ rfl
  go_wp2_with fail
  clear k0 k1
  refine (unhide HSZ _ (unhide HB1)).mono ?_
  rintro e w2 ⟨g2, rfl, hg, hc, hb⟩
  have HV2 := hide ((unhide HV1).below hb)
  have HY2 := hide ((unhide HY1).below hb)
  have HQ2 := hide ((unhide HQ1).below hb)
  have HB2 := hide (below_trans (unhide HB1) hb)
  have HC2 := hide ((unhide HC1).below hb)
  have HA2 := hide hc
  clear hc hb HV1 HY1 HQ1 HB1 HC1
  have k0 := (unhide HC2).cell 0 _ rfl
  have k1 := (unhide HC2).cell 1 _ rfl
  go_wp2_with fail
  clear k0 k1
  refine (unhide HSW _ (unhide HB2)).mono ?_
  rintro e w3 ⟨g3, rfl, hg, hc, hb⟩
  have HV3 := hide ((unhide HV2).below hb)
  have HY3 := hide ((unhide HY2).below hb)
  have HQ3 := hide ((unhide HQ2).below hb)
  have HB3 := hide (below_trans (unhide HB2) hb)
  have HC3 := hide ((unhide HC2).below hb)
  have HA3 := hide ((unhide HA2).below hb)
  have HE3 := hide hc
  clear hc hb HV2 HY2 HQ2 HB2 HC2 HA2
  have k0 := (unhide HC3).cell 0 _ rfl
  have hlt0 : w.heap.size < w3.heap.size := (unhide HC3).lt
  have v1 := hide (show Lies w3.drew a fx from (unhide HV3))
  have v2 := hide (show Lies w3.drew b fy from (unhide HY3))
  have v3 := hide (show Quar w3.drew from (unhide HQ3))
  have v4 := hide ((unhide HA3).lies)
  have v5 := hide ((unhide HE3).lies)
  have keep : ∀ {w' : World}, Below w3.heap.size w3 w' → w'.cell? ⟨w.heap.size, 0, none⟩ = some (.int .i64 q0) := fun h => (h.cell (p := ⟨w.heap.size, 0, none⟩) hlt0).trans k0
  go_wp2
  go_region_held3 (fun w' => w'.cell? ⟨w.heap.size, 0, none⟩ = some (.int .i64 q0)) (first | exact k0 | exact keep hbu' | exact keep hbt' | assumption)
    (first
      | (go_at_call 11; (with_reducible refine (unhide HF _).mono ?_); rintro e w' ⟨rfl, rfl⟩)
      | (go_at_call 11; (with_reducible refine (unhide HG _).mono ?_); rintro e w' ⟨rfl, rfl⟩)
      | (go_at_call 10; (with_reducible refine (tells_any (some ⟨g2, 0, none⟩) (some ⟨g3, 0, none⟩) s s' s s' (sizedL xs s) (sizedL ys s') q0 wt ((unhide v4).below hbt') ((unhide v5).below hbt') (unhide HXS) (unhide HYS) (sized_len _ _) (sized_len _ _) (by omega) (by omega) (unhide H0) ((unhide HQ3).below hbt')).mono ?_); rintro e wu ⟨rfl, hbu⟩; have hbu' := below_trans hbt' hbu)
      | (go_at_call 10; (with_reducible refine (tells_any a b nf mf ca cb fx fy q0 w3.drew (unhide v1) (unhide v2) hfs hgs (unhide HNF) (unhide HMF) hf40 hg40 (unhide H0) (unhide v3)).mono ?_); rintro e wt ⟨rfl, hbt⟩; have hbt' := undrew hbt))
  go_wp2
  go_ret
  exact ⟨rfl, below_trans (unhide HB3) hbu'⟩
end Go.Proofs.YtcnpbkgnoeoccaaDoor
