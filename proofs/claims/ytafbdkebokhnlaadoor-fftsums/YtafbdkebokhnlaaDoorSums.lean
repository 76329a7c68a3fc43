/- FftSums returns true. -/
import Derived.Test.YtafbdkebokhnlaaDoorBackw
import Derived.Deep.RegionLaw
namespace Go.Proofs.YtafbdkebokhnlaaDoor
open Go.RowKit
set_option linter.unusedVariables false

theorem one_take (h n : Nat) (x : Int) (hn : h ≤ n) : (oneL n x).take h = oneL h x := by
  refine (mkL_eq _ _ _ (by rw [List.length_take, oneL_len]; omega) fun i hi => ?_).symm
  have e : ((oneL n x).take h).getD i 0 = (oneL n x).getD i 0 := by
    simp [List.getD_eq_getElem?_getD, hi]
  rw [e]; unfold oneL; rw [mkL_at _ _ _ (by omega)]

/-- The cells of a part of a row. -/
theorem lies_part {w : World} {g : Nat} {V : List Int} (h : Lies w (some ⟨g, 0, none⟩) V) (p m : Nat) (hm : p + m ≤ V.length) : ∀ j u, (ints ((V.drop p).take m))[j]? = some u → w.cell? ((⟨g, p, none⟩ : Addr).add j) = some u := by
  intro j u hu
  by_cases h0 : V = []
  · subst h0; simp [ints] at hu
  · obtain ⟨b, o, hb, hlt, hc⟩ := h.some h0
    cases hb
    have hj : j < m := by
      have := (List.getElem?_eq_some_iff.1 hu).1
      simp [ints] at this; omega
    have := hc (p + j) (by omega)
    rw [Nat.zero_add] at this
    rw [show (⟨g, p, none⟩ : Addr).add j = ⟨g, p + j, none⟩ by unfold Addr.add; split; (· subst_vars; rfl); rfl]
    rw [this, ← hu]
    simp [ints, hj, List.getD_eq_getElem?_getD, List.getElem?_eq_getElem (show p + j < V.length by omega)]

theorem Lies.take {w : World} {a : Option Addr} {xs : List Int} (h : Lies w a xs) (n : Nat) : Lies w a (xs.take n) := by
  rcases h with rfl | ⟨b, off, ha, hlt, hc⟩
  · exact .inl (by simp)
  · refine .inr ⟨b, off, ha, hlt, fun j hj => ?_⟩
    rw [List.length_take] at hj
    rw [hc j (by omega)]
    congr 2
    simp [List.getD_eq_getElem?_getD, show j < n by omega]

set_option maxRecDepth 100000 in
set_option maxHeartbeats 6400000 in
theorem sums_walk (a b : Option Addr) (na ca nb cb : Nat) (zx zy : List Int) (q0 q1 : Int) (w : World) (hx : IsRow .i64 w a na ca zx) (hy : IsRow .i64 w b nb cb zy) (h0 : In64 q0) (h1 : In64 q1) (hq : Quar w) :
    Calls Tryd.prog 6 #[.slice a na ca, .slice b nb cb, .agg #[.int .i64 q0, .int .i64 q1]] w fun e w' => e = .returned (.bool true) ∧ Below w.heap.size w w' := by
  obtain ⟨i0, hi, hz0, hz1, hz2⟩ := info_parts Tryd.info3
  obtain ⟨xs, hxn, _, hxl, hxs⟩ := row_all a na ca zx w hx
  obtain ⟨ys, hyn, _, hyl, hys⟩ := row_all b nb cb zy w hy
  obtain ⟨h, hm, hsz⟩ := sized_any q0 h0
  obtain ⟨hp0, hp1⟩ := mayN_pos hm
  have HX := hide hxl
  have HY := hide hyl
  have HXN := hide hxn
  have HYN := hide hyn
  have HQ := hide hq
  have HZ := hide hsz
  have HM := hide hm
  obtain ⟨n, hn⟩ : ∃ n, 2 * h = n := ⟨_, rfl⟩
  have HN := hide hn
  have HNH := hide hn.symm
  have hn64 : n ≤ 64 := by omega
  have hn1 : 2 ≤ n := by omega
  have hd : (n : Int) / 2 = (h : Int) := by omega
  have HMF := hide (show mayF n by rw [← hn]; exact mayF_of hm)
  obtain ⟨V, hV⟩ : ∃ V, sizedL xs n = V := ⟨_, rfl⟩
  obtain ⟨U, hU⟩ : ∃ U, sizedL ys n = U := ⟨_, rfl⟩
  have HVE := hide hV
  have HUE := hide hU
  have HVL := hide (show V.length = n by rw [← hV]; exact sized_len _ _)
  have HVS := hide (show Small V by rw [← hV]; exact sized_small _ _ hxs)
  have HUL := hide (show U.length = n by rw [← hU]; exact sized_len _ _)
  have HUS := hide (show Small U by rw [← hU]; exact sized_small _ _ hys)
  have hand := and_may n q1 (unhide HMF)
  obtain ⟨k, hk, hkn⟩ : ∃ t : Nat, q1 % (n : Int) = t ∧ t < n := ⟨(q1 % (n : Int)).toNat, by have := Int.emod_nonneg q1 (b := (n : Int)) (by omega); omega, by have := Int.emod_lt_of_pos q1 (b := (n : Int)) (by omega); omega⟩
  rw [hk] at hand
  have hkin : In64 (k : Int) := by unfold In64; omega
  clear hx hy hxl hyl hq hsz hxn hyn hV hU hm hn hk hxs hys
  go_enter Tryd.func6, Tryd.ntmps6
  have HB0 := hide (alloc_below w (.cells #[.int .i64 q0, .int .i64 q1] 34))
  have HX0 := hide ((unhide HX).below (unhide HB0))
  have HY0 := hide ((unhide HY).below (unhide HB0))
  have HQ0 := hide ((unhide HQ).below (unhide HB0))
  have HC0 := hide (cells_new w [.int .i64 q0, .int .i64 q1] 34)
  clear HX HY HQ
  go_wp2_with fail
  refine (fft_awake _ (unhide HQ0)).mono ?_
  rintro e w1 ⟨rfl, hb⟩
  have HX1 := hide ((unhide HX0).below hb)
  have HY1 := hide ((unhide HY0).below hb)
  have HB1 := hide (below_trans (unhide HB0) hb)
  have HC1 := hide ((unhide HC0).below hb)
  have z0 := (unhide HC1).cell 0 _ rfl
  clear hb HX0 HY0 HQ0 HB0 HC0
  go_wp2_with fail
  refine (unhide HZ a na ca xs _ (unhide HX1) (unhide HXN)).mono ?_
  rintro e w2 ⟨g, rfl, hg, hc, hb⟩
  rw [unhide HN] at hc ⊢
  rw [unhide HVE] at hc
  have HB2 := hide (below_trans (unhide HB1) hb)
  have HV2 := hide hc.lies
  have HY2 := hide ((unhide HY1).below hb)
  have HC2 := hide ((unhide HC1).below hb)
  have y0 := (unhide HC2).cell 0 _ rfl
  clear hb hg hc z0 HX1 HY1 HC1 HB1
  go_wp2_with fail
  refine (unhide HZ b nb cb ys _ (unhide HY2) (unhide HYN)).mono ?_
  rintro e w3 ⟨g2, rfl, hg, hc, hb⟩
  rw [unhide HN] at hc ⊢
  rw [unhide HUE] at hc
  have HB3 := hide (below_trans (unhide HB2) hb)
  have HU3 := hide hc.lies
  have HV3 := hide ((unhide HV2).below hb)
  have HC3 := hide ((unhide HC2).below hb)
  have z1 := (unhide HC3).cell 1 _ rfl
  clear hb hg hc y0 HY2 HC2 HB2 HV2
  go_wp2_with fail
  refine (add_two (some ⟨g, 0, none⟩) (some ⟨g2, 0, none⟩) n n n n V U w3 w3 (Below.refl _ _) (unhide HV3) (unhide HU3) (unhide HVS) (unhide HVL) (unhide HUL) (by omega)).mono ?_
  rintro e w4 ht
  have es : sum2 V U = add2 V U := by unfold sum2; rw [if_pos (by rw [unhide HVL, unhide HUL])]
  rw [es] at ht
  obtain ⟨a4, c4, rfl, h2, h3⟩ := told_len ht (show (add2 V U).length = n by rw [add2_len, unhide HVL])
  have HB4 := hide (below_trans (unhide HB3) h3)
  have HS4 := hide h2
  have HV4 := hide ((unhide HV3).below h3)
  have HU4 := hide ((unhide HU3).below h3)
  clear ht h2 h3 es z1 HC3 HB3 HV3 HU3
  obtain ⟨p, hp⟩ : ∃ p, n - 1 = p := ⟨_, rfl⟩
  have hpi : (n : Int) - 1 = (p : Int) := by omega
  have hpw : IntKind.i64.wrap (p : Int) = (p : Int) := by rw [IntKind.wrap_i64]; omega
  have hpn : (p : Int) ≤ (n : Int) := by omega
  have hpn2 : ¬ (n : Int) = (p : Int) := by omega
  have hpn5 : ¬ n = p := by omega
  have hp1' : 1 ≤ p := by omega
  have hpn3 : n - p = 1 := by omega
  have hpn4 : (n : Int) - (p : Int) = 1 := by omega
  have HPE := hide hp
  have hwa : Below w4.heap.size w4 ((w4.alloc (.cells #[] 3)).drew) := (alloc_below w4 (.cells #[] 3)).drew
  have own0 : ((w4.alloc (.cells #[] 3)).drew).ownsRow w4.heap.size 3 1 (.slice (some ⟨w4.heap.size, 0, none⟩) 0 0) 0 [] := (World.ownsRow_lit w4 #[] 0 (Nat.le_refl _) (by decide) rfl).drew
  have news1 := lies_part ((unhide HV4).below hwa) p 1 (by rw [unhide HVL]; omega)
  have hlen1 : (ints ((V.drop p).take 1)).length = 1 := by simp [ints]; rw [unhide HVL]; omega
  have hlen2 : (ints ((V.drop 0).take p)).length = p * 1 := by simp [ints]; rw [unhide HVL]; omega
  clear hp
  go_wp2
  go_region_held3 (fun w' => True) (trivial)
    (first
      | (refine step_append_lies _ (by rfl) _ _ 22 (by rfl) w4.heap.size 3 i0 (.int .i64 0) 1 8 Tryd.underlying22 hi hz0 hz1 hz2 (by rfl) (by decide) _ (0 + 1) _ (by rfl) ob ⟨g, 0, none⟩ p n (ints ((V.drop 0).take p)) (by rfl) hlen2 news2 (ints_one _) (by omega) (by unfold maxLen; omega) (by omega) (by have := hgb.size; simp at this; omega) _ rfl ?_; intro gc cpc wc oc hgc hatc hltc)
      | (refine step_append_lies _ (by rfl) _ _ 22 (by rfl) w4.heap.size 3 i0 (.int .i64 0) 1 8 Tryd.underlying22 hi hz0 hz1 hz2 (by rfl) (by decide) _ 0 [] (by rfl) own0 ⟨g, p, none⟩ 1 1 (ints ((V.drop p).take 1)) (by rfl) hlen1 news1 (ints_one _) (by omega) (by unfold maxLen; omega) (by omega) (by simp) _ rfl ?_; intro gb cpb wb ob hgb hatb hltb; have hbb := hwa.grown hgb hwa.size (fun q hq => (own0.lt q hq).1); have news2 := lies_part ((unhide HV4).below hbb) 0 p (by rw [unhide HVL]; omega)))
  have hgc' : wb.grownBy wc (some gb) := hgc
  have hgbl : w4.heap.size ≤ gb := (ob.lt gb rfl).1
  have hb4c := hbb.grown hgc' hbb.size (fun q hq => by obtain rfl := Option.some.inj hq; exact hgbl)
  have hml : V.drop p ++ V.take p = movedL V n := by rw [← unhide HPE]; exact movedL_eq V n (unhide HVL) (by omega)
  have hdt : (V.drop p).take 1 = V.drop p := List.take_of_length_le (by rw [List.length_drop, unhide HVL]; omega)
  have hoc : ([] ++ ints (List.take 1 (List.drop p V)) ++ ints (List.take p (List.drop 0 V))) = ints (movedL V n) := by
    rw [hdt, List.drop_zero, ← hml]; simp [ints]
  rw [hoc] at oc
  have h1p : 1 + p = n := by omega
  have h01p : 0 + 1 + p = n := by omega
  rw [h01p] at oc
  rw [h1p]
  obtain ⟨qm, km, hvm, lm, hm5⟩ := owned_lies oc
  injection hvm with hqm hq2 hq3
  clear hm5 hq2 hq3
  rw [← hqm] at lm
  have HMV := hide lm
  have HMVL := hide (show (movedL V n).length = n from mkL_len _ _)
  have HMVS := hide (show Small (movedL V n) from small_mk _ _ fun i _ => by split <;> exact (unhide HVS).all _)
  have HBc := hide (below_trans (unhide HB4) hb4c)
  have HSc := hide ((unhide HS4).below hb4c)
  have HVc := hide ((unhide HV4).below hb4c)
  have HUc := hide ((unhide HU4).below hb4c)
  clear hgc hgc' hgbl hb4c hml hdt hoc oc lm hqm hbb hgb hatb hltb ob news2 hatc hltc own0 news1 hlen1 hlen2 hwa hpi hpw hpn hpn2 hpn3 hpn4 hpn5 hp1' h1p h01p HS4 HV4 HU4 HB4
  go_wp2_with fail
  refine (fsum_yes a4 c4 n h (k : Int) (add2 V U) _ (unhide HSc) (add2_small _ _) (by rw [add2_len, unhide HVL]) (unhide HNH) (unhide HM) hkin).mono ?_
  rintro e w5 ht
  obtain ⟨a5, c5, rfl, h2, h3⟩ := told_len ht (spinS_len _ _ _)
  have HB5 := hide (below_trans (unhide HBc) h3)
  have HT5 := hide h2
  have HVc' := hide ((unhide HVc).below h3)
  have HUc' := hide ((unhide HUc).below h3)
  have HMV' := hide ((unhide HMV).below h3)
  clear h2 h3 ht HBc HVc HUc HMV
  have HVc := hide (unhide HVc')
  have HUc := hide (unhide HUc')
  have HMV := hide (unhide HMV')
  clear HVc' HUc' HMV'
  go_wp2_with fail
  refine (fsum_yes (some ⟨g, 0, none⟩) n n h (k : Int) V _ (unhide HVc) (unhide HVS) (unhide HVL) (unhide HNH) (unhide HM) hkin).mono ?_
  rintro e w6 ht
  obtain ⟨a6, c6, rfl, h2, h3⟩ := told_len ht (spinS_len _ _ _)
  have HB6 := hide (below_trans (unhide HB5) h3)
  have HT6 := hide h2
  have HVc' := hide ((unhide HVc).below h3)
  have HUc' := hide ((unhide HUc).below h3)
  have HMV' := hide ((unhide HMV).below h3)
  have HT5' := hide ((unhide HT5).below h3)
  clear h2 h3 ht HB5 HVc HUc HMV HT5
  have HVc := hide (unhide HVc')
  have HUc := hide (unhide HUc')
  have HMV := hide (unhide HMV')
  have HT5 := hide (unhide HT5')
  clear HVc' HUc' HMV' HT5'
  go_wp2_with fail
  refine (fsum_yes (some ⟨g2, 0, none⟩) n n h (k : Int) U _ (unhide HUc) (unhide HUS) (unhide HUL) (unhide HNH) (unhide HM) hkin).mono ?_
  rintro e w7 ht
  obtain ⟨a7, c7, rfl, h2, h3⟩ := told_len ht (spinS_len _ _ _)
  have HB7 := hide (below_trans (unhide HB6) h3)
  have HT7 := hide h2
  have HVc' := hide ((unhide HVc).below h3)
  have HMV' := hide ((unhide HMV).below h3)
  have HT5' := hide ((unhide HT5).below h3)
  have HT6' := hide ((unhide HT6).below h3)
  clear h2 h3 ht HB6 HVc HMV HT5 HT6
  have HVc := hide (unhide HVc')
  have HMV := hide (unhide HMV')
  have HT5 := hide (unhide HT5')
  have HT6 := hide (unhide HT6')
  clear HVc' HMV' HT5' HT6'
  go_wp2_with fail
  refine (add_two a6 a7 h h c6 c7 (spinS h (k : Int) V) (spinS h (k : Int) U) w7 w7 (Below.refl _ _) (unhide HT6) (unhide HT7) (spinS_small _ _ _) (spinS_len _ _ _) (spinS_len _ _ _) (by omega)).mono ?_
  rintro e w8 ht
  have es : sum2 (spinS h (k : Int) V) (spinS h (k : Int) U) = spinS h (k : Int) (add2 V U) := by
    unfold sum2; rw [if_pos (by rw [spinS_len, spinS_len]), spin_add h (k : Int) V U (by rw [unhide HVL, unhide HUL])]
  rw [es] at ht
  obtain ⟨a8, c8, rfl, h2, h3⟩ := told_len ht (spinS_len _ _ _)
  have HB8 := hide (below_trans (unhide HB7) h3)
  have HT8 := hide h2
  have HT5' := hide ((unhide HT5).below h3)
  have HVd := hide ((unhide HVc).below h3)
  have HMd := hide ((unhide HMV).below h3)
  clear ht h2 h3 es HB7 HT6 HT7 HT5 HVc HMV
  go_wp2_with fail
  refine (same_any a5 a8 c5 c8 (spinS h (k : Int) (add2 V U)) h (spinS_len _ _ _) (by omega) _ (unhide HT5') (unhide HT8)).mono ?_
  rintro e w9 ⟨rfl, h3⟩
  have HB9 := hide (below_trans (unhide HB8) h3)
  have HVd' := hide ((unhide HVd).below h3)
  have HMd' := hide ((unhide HMd).below h3)
  clear h3 HB8 HVd HMd HT5' HT8
  have HVd := hide (unhide HVd')
  have HMd := hide (unhide HMd')
  clear HVd' HMd'
  go_wp2_with fail
  refine (fsum_yes (some ⟨gc, 0, none⟩) cpc n h (k : Int) (movedL V n) _ (unhide HMd) (unhide HMVS) (unhide HMVL) (unhide HNH) (unhide HM) hkin).mono ?_
  rintro e w10 ht
  obtain ⟨a10, c10, rfl, h2, h3⟩ := told_len ht (spinS_len _ _ _)
  have HB10 := hide (below_trans (unhide HB9) h3)
  have HT10 := hide h2
  have HVd' := hide ((unhide HVd).below h3)
  clear h2 h3 ht HB9 HVd
  have HVd := hide (unhide HVd')
  clear HVd'
  go_wp2_with fail
  refine (fsum_yes (some ⟨g, 0, none⟩) n n h (k : Int) V _ (unhide HVd) (unhide HVS) (unhide HVL) (unhide HNH) (unhide HM) hkin).mono ?_
  rintro e w11 ht
  obtain ⟨a11, c11, rfl, h2, h3⟩ := told_len ht (spinS_len _ _ _)
  have HB11 := hide (below_trans (unhide HB10) h3)
  have HT11 := hide h2
  have HT10' := hide ((unhide HT10).below h3)
  clear h2 h3 ht HB10 HT10
  have HT10 := hide (unhide HT10')
  clear HT10'
  go_wp2_with fail
  refine (turn_told a11 c11 (spinS h (k : Int) V) h (k : Int) _ (unhide HT11) (spinS_small _ _ _) (spinS_len _ _ _) (by omega) hkin).mono ?_
  rintro e w12 ht
  have es : turnL (spinS h (k : Int) V) (k : Int) = spinS h (k : Int) (movedL V n) := by
    have := spin_moved h (k : Int) V (by rw [unhide HVL]; exact unhide HNH) hp0
    rw [← this, ← unhide HNH]
  rw [es] at ht
  obtain ⟨a12, c12, rfl, h2, h3⟩ := told_len ht (spinS_len _ _ _)
  have HB12 := hide (below_trans (unhide HB11) h3)
  have HT12 := hide h2
  have HT10' := hide ((unhide HT10).below h3)
  clear ht h2 h3 es HB11 HT11 HT10
  go_wp2_with fail
  refine (same_any a10 a12 c10 c12 (spinS h (k : Int) (movedL V n)) h (spinS_len _ _ _) (by omega) _ (unhide HT10') (unhide HT12)).mono ?_
  rintro e w13 ⟨rfl, h3⟩
  have HB13 := hide (below_trans (unhide HB12) h3)
  clear h3 HB12 HT10' HT12
  go_wp2_with (at_make; refine wpList_make_full _ rfl _ _ 22 rfl w13.heap.size 3 i0 (.int .i64 0) 1 Tryd.underlying22 hi hz0 hz1 _ _ _ _ n rfl rfl rfl rfl ?m1 ?m2 ?m3 ?_)
  case m1 => rw [hz2]; omega
  case m2 => unfold maxLen; omega
  case m3 => exact Nat.le_refl _
  intro w14 hown hgr
  rw [ints_zero] at hown
  have hb14 := (Below.refl w13.heap.size w13).grown hgr (Nat.le_refl _) (fun _ h => by cases h)
  have HO := hide (own_cells hown)
  obtain ⟨bf, hbf⟩ : ∃ b, w13.heap.size = b := ⟨_, rfl⟩
  rw [hbf] at HO ⊢
  have hcell := (unhide HO).cell 0 _ (ints_at _ 0 (by simp; omega))
  have hfree := (unhide HO).free 0
  have HB14 := hide (show Below w.heap.size w (w14.setCell ⟨bf, 0, none⟩ (.int .i64 1)) from (below_trans (unhide HB13) hb14).setCell (by show w.heap.size ≤ bf; have := (unhide HB13).size; omega) _)
  have HF := hide (show Lies (w14.setCell ⟨bf, 0, none⟩ (.int .i64 1)) (some ⟨bf, 0, none⟩) (oneL n 1) by
    have := (unhide HO).set 0 (.int .i64 1)
    rw [ints_set, oneL_set n 1 (by omega)] at this
    exact this.lies)
  clear hown hgr hb14 hbf HB13 HO
  go_wp2
  obtain ⟨w15, hw15⟩ : ∃ w15, w14.setCell ⟨bf, 0, none⟩ (.int .i64 1) = w15 := ⟨_, rfl⟩
  rw [hw15] at HF HB14 ⊢
  clear hw15 hcell hfree
  have hbd : Below w15.heap.size w15 w15.drew := ⟨rfl, rfl, rfl, Nat.le_refl _, fun _ _ => rfl⟩
  have es : spinS h (k : Int) (oneL n 1) = oneL h 1 := spin_first h (k : Int) n (unhide HNH) hp0
  have HSP := hide (show Calls Tryd.prog 13 #[.int .i64 (k : Int), .slice (some ⟨bf, 0, none⟩) n n] w15.drew (Told (oneL h 1) w15.drew) by
    have := fsum_yes (some ⟨bf, 0, none⟩) n n h (k : Int) (oneL n 1) w15.drew ((unhide HF).below hbd) (oneL_small n 1 (by unfold In64; omega)) (oneL_len n 1) (unhide HNH) (unhide HM) hkin
    rw [es] at this
    exact this)
  have HT := hide (show Lies w15.drew (some ⟨bf, 0, none⟩) (oneL h 1) by
    rw [← one_take h n 1 (by have := unhide HNH; omega)]
    exact ((unhide HF).below hbd).take h)
  have hhn : (h : Int) ≤ (n : Int) := by omega
  have hh0 : (0 : Int) ≤ (h : Int) := by omega
  have hwh : IntKind.i64.wrap (h : Int) = (h : Int) := by rw [IntKind.wrap_i64]; omega
  have htd : (n : Int).tdiv 2 = (h : Int) := by rw [Int.tdiv_eq_ediv_of_nonneg (by omega)]; exact hd
  clear es
  go_region_held3 (fun w' => True) (trivial)
    (first
      | (go_at_call 12; (with_reducible refine (same_any a16 (some ⟨bf, 0, none⟩) c16 n (oneL h 1) h (oneL_len h 1) (by omega) w16 h162 ((unhide HT).below hb16)).mono ?_); rintro e w17 ⟨rfl, hb17⟩; have hb17' := below_trans hb16' hb17)
      | (go_at_call 13; (with_reducible refine (unhide HSP).mono ?_); rintro e w16 ht; obtain ⟨a16, c16, rfl, h162, hb16⟩ := told_len ht (oneL_len h 1); have hb16' := spin_undrew hb16))
  have HB17 := hide (below_trans (unhide HB14) hb17')
  clear hb17 hb17' hb16 hb16' ht h162 hbd HSP HT HF HB14
  go_wp2
  go_ret
  exact ⟨rfl, unhide HB17⟩
end Go.Proofs.YtafbdkebokhnlaaDoor
