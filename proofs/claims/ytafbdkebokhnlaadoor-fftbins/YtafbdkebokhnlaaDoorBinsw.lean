/- FftBins returns true. -/
import Derived.Test.YtafbdkebokhnlaaDoorDirect
import Derived.Test.YtafbdkebokhnlaaDoorRbins
namespace Go.Proofs.YtafbdkebokhnlaaDoor
open Go.RowKit
set_option linter.unusedVariables false

theorem lies_nil (w : World) : Lies w none [] := .inl rfl
theorem pow_small (xs ys : List Int) : Small (powL xs ys) := small_mk _ _ fun _ _ => in_w64 _
theorem divI_in (x n : Int) (hx : In64 x) : In64 (divI x n) := by
  by_cases c : n < 1
  · rw [divI_no x n c]; exact ⟨by decide, by decide⟩
  · have hq := quo_in x n (by omega) hx
    by_cases c2 : n - x % n ≤ x % n
    · have := up_bd x n (by omega) hx c2
      rw [divI_up x n (by omega) c2]
      obtain ⟨h1, h2⟩ := hq
      exact ⟨by omega, by omega⟩
    · rw [divI_down x n (by omega) c2]; exact hq
theorem half_in (x s : Int) (hx : In64 x) : In64 (halfI x s) := by
  unfold halfI; split
  · exact divI_in _ _ hx
  · constructor <;> decide
theorem down_small (s : Int) (xs : List Int) (hs : Small xs) : Small (downL s xs) := by
  intro x hx
  obtain ⟨y, hy, rfl⟩ := List.mem_map.1 hx
  exact half_in y s (hs y hy)
theorem mov_bd (h : Nat) (xs : List Int) : 0 ≤ movS h xs ∧ movS h xs ≤ 49 := by
  rw [mov_max]
  have h1 := norm_bd (partsL cosC h xs) (parts_small _ _ _)
  have h2 := norm_bd (partsL sinC h xs) (parts_small _ _ _)
  omega

set_option maxRecDepth 100000 in
set_option maxHeartbeats 6400000 in
theorem binsw_any (a : Option Addr) (n cap : Nat) (V : List Int) (w : World) (hl : Lies w a V) (hs : Small V) (hn : V.length = n) (hq : Quar w) (hm : n ≤ 100) :
    Calls Tryd.prog 14 #[.slice a n cap] w fun e w' => e = .returned (.bool true) ∧ Below w.heap.size w w' := by
  by_cases c : mayF n
  · obtain ⟨h, hm, hh⟩ := mayF_half c
    obtain ⟨hp0, hp1⟩ := mayN_pos hm
    have HC := hide c
    have HM := hide hm
    have HL := hide hl
    have HS := hide hs
    have HN := hide hn
    have HQ := hide hq
    have HH := hide hh
    clear c hl hs hn hq hm hh
    go_enter Tryd.func14, Tryd.ntmps14
    go_wp2_with fail
    refine (bins_yes a cap n h V w (unhide HL) (unhide HS) (unhide HN) (unhide HH) (unhide HM) (unhide HQ)).mono ?_
    rintro e w1 ⟨g1, g2, rfl, h1, h2, hb⟩
    obtain ⟨m, hmm⟩ : ∃ m, h + 1 = m := ⟨_, rfl⟩
    have hm64 : m ≤ 64 := by omega
    obtain ⟨s, hse⟩ : ∃ s, movS h V = s := ⟨_, rfl⟩
    obtain ⟨R, hR⟩ : ∃ R, downL (movS h V) (partsL cosC h V) = R := ⟨_, rfl⟩
    obtain ⟨I, hI⟩ : ∃ R, downL (movS h V) (partsL sinC h V) = R := ⟨_, rfl⟩
    have HRL := hide (show R.length = m by rw [← hR, down_len, parts_len, hmm])
    have HIL := hide (show I.length = m by rw [← hI, down_len, parts_len, hmm])
    have HRS := hide (show Small R by rw [← hR]; exact down_small _ _ (parts_small _ _ _))
    have HIS := hide (show Small I by rw [← hI]; exact down_small _ _ (parts_small _ _ _))
    have hms : 0 ≤ s ∧ s ≤ 49 := by rw [← hse]; exact mov_bd h V
    rw [hR] at h1
    rw [hI] at h2
    rw [hse, hmm]
    have HC1 := hide h1.lies
    have HC2 := hide h2.lies
    have HB1 := hide hb
    clear h1 h2 hb
    go_wp2_with fail
    refine (rbins_yes a cap n h V _ ((unhide HL).below (unhide HB1)) (unhide HS) (unhide HN) (unhide HH) (unhide HM)).mono ?_
    rintro e w2 ⟨b1, b2, k1, k2, rfl, h1, h2, hb⟩
    rw [hR] at h1
    rw [hI] at h2
    rw [hse, hmm]
    have HD1 := hide h1
    have HD2 := hide h2
    have HC3 := hide ((unhide HC1).below hb)
    have HC4 := hide ((unhide HC2).below hb)
    have HB2 := hide (below_trans (unhide HB1) hb)
    clear h1 h2 hb hR hI hse hmm HB1 HC1 HC2
    have hsc := cells_new w2 [.slice b1 m k1, .slice b2 m k2, .int .i64 s] 51
    obtain ⟨B, hB⟩ : ∃ B, w2.heap.size = B := ⟨_, rfl⟩
    rw [hB] at hsc
    have hb2 := alloc_below w2 (.cells #[.slice b1 m k1, .slice b2 m k2, .int .i64 s] 51)
    have x0 := hsc.cell 0 _ rfl
    have x1 := hsc.cell 1 _ rfl
    have x2 := hsc.cell 2 _ rfl
    go_wp2_with fail
    obtain ⟨w3, hw3⟩ : ∃ x, w2.alloc (.cells #[.slice b1 m k1, .slice b2 m k2, .int .i64 s] 51) = x := ⟨_, rfl⟩
    have hsc' : Cells w3 B [.slice b1 m k1, .slice b2 m k2, .int .i64 s] := by rw [← hw3]; exact hsc
    rw [hw3] at hb2
    simp only [hw3]
    have HB3 := hide (below_trans (unhide HB2) hb2)
    have HE1 := hide ((unhide HD1).below hb2)
    have HE2 := hide ((unhide HD2).below hb2)
    have HE3 := hide ((unhide HC3).below hb2)
    have HE4 := hide ((unhide HC4).below hb2)
    have HSC := hide hsc'
    clear hsc hsc' hb2 x0 x1 x2 hw3 hB HD1 HD2 HC3 HC4 HB2
    refine (same_any (some ⟨g1, 0, none⟩) b1 m k1 R m (unhide HRL) (by omega) _ (unhide HE3) (unhide HE1)).mono ?_
    rintro e w4 ⟨rfl, h3⟩
    have HB4 := hide (below_trans (unhide HB3) h3)
    have HF1 := hide ((unhide HE1).below h3)
    have HF2 := hide ((unhide HE2).below h3)
    have HF3 := hide ((unhide HE3).below h3)
    have HF4 := hide ((unhide HE4).below h3)
    have HSC4 := hide ((unhide HSC).below h3)
    have x1 := (unhide HSC4).cell 1 _ rfl
    clear h3 HB3 HE1 HE2 HE3 HE4 HSC
    go_wp2_with fail
    refine (same_any (some ⟨g2, 0, none⟩) b2 m k2 I m (unhide HIL) (by omega) _ (unhide HF4) (unhide HF2)).mono ?_
    rintro e w5 ⟨rfl, h3⟩
    have HB5 := hide (below_trans (unhide HB4) h3)
    have HE1 := hide ((unhide HF1).below h3)
    have HE2 := hide ((unhide HF2).below h3)
    have HE3 := hide ((unhide HF3).below h3)
    have HE4 := hide ((unhide HF4).below h3)
    have HSC5 := hide ((unhide HSC4).below h3)
    have y0 := (unhide HSC5).cell 0 _ rfl
    have y1 := (unhide HSC5).cell 1 _ rfl
    clear h3 HB4 HF1 HF2 HF3 HF4 HSC4 x1
    have hpl : (powL R I).length = m := by rw [powL_len, unhide HRL, unhide HIL]; omega
    have HPL := hide hpl
    have hbd : Below w5.heap.size w5 w5.drew := ⟨rfl, rfl, rfl, Nat.le_refl _, fun _ _ => rfl⟩
    have keep : ∀ {w' : World}, Below w5.heap.size w5 w' → w'.cell? ⟨B, 0, none⟩ = some (.slice b1 m k1) ∧ w'.cell? ⟨B, 1, none⟩ = some (.slice b2 m k2) := fun hb => by
      have := (unhide HSC5).below hb
      exact ⟨this.cell 0 _ rfl, this.cell 1 _ rfl⟩
    have hm1 : m ≤ 1000 := by omega
    clear hpl
    go_wp2
    go_region_held3 (fun w' => w'.cell? ⟨B, 0, none⟩ = some (.slice b1 m k1) ∧ w'.cell? ⟨B, 1, none⟩ = some (.slice b2 m k2)) (first | exact ⟨y0, y1⟩ | exact keep hb8' | exact keep hb7' | exact keep hb6' | assumption)
      (first
        | (go_at_call 12; (with_reducible refine (same_any a6 a7 c6 c7 (powL R I) m (unhide HPL) (by omega) w7 (h62.below hb7) h72).mono ?_); rintro e w8 ⟨rfl, hb8⟩; have hb8' := below_trans hb7' hb8)
        | (go_at_call 32; (with_reducible refine (rfpower_any b1 b2 m m k1 k2 R I w6 ((unhide HE1).below hb6') ((unhide HE2).below hb6') (unhide HRS) (unhide HIS) (unhide HRL) (unhide HIL) hm1 hm1).mono ?_); rintro e w7 ht; obtain ⟨a7, c7, rfl, h72, hb7⟩ := told_len ht (unhide HPL); have hb7' := below_trans hb6' hb7)
        | (go_at_call 31; (with_reducible refine (power_any (some ⟨g1, 0, none⟩) (some ⟨g2, 0, none⟩) m m m m R I w5.drew ((unhide HE3).below hbd) ((unhide HE4).below hbd) (unhide HRS) (unhide HIS) (unhide HRL) (unhide HIL) hm1 hm1).mono ?_); rintro e w6 ht; obtain ⟨a6, c6, rfl, h62, hb6⟩ := told_len ht (unhide HPL); have hb6' := spin_undrew hb6))
    have HB8 := hide (below_trans (unhide HB5) hb8')
    have HSC8 := hide ((unhide HSC5).below hb8')
    clear ht hb8 hb8' hb7 hb7' hb6 hb6' h62 h72 keep hbd y0 y1 HE1 HE2 HE3 HE4 HB5 HSC5
    go_wp2_with fail
    refine (rfmay_yes n _ (unhide HC)).mono ?_
    rintro e w9 ⟨rfl, rfl⟩
    have z2 := (unhide HSC8).cell 2 _ rfl
    go_wp2
    go_ret
    exact ⟨rfl, unhide HB8⟩
  · have HC := hide c
    have HL := hide hl
    have HS := hide hs
    have HN := hide hn
    have HQ := hide hq
    clear c hl hs hn hq
    go_enter Tryd.func14, Tryd.ntmps14
    go_wp2_with fail
    refine (bins_no a cap n w (unhide HC)).mono ?_
    rintro e w1 ⟨rfl, hb⟩
    have HB1 := hide hb
    clear hb
    go_wp2_with fail
    refine (rbins_no a cap n _ (unhide HC) (by omega)).mono ?_
    rintro e w2 ⟨rfl, hb⟩
    have HB2 := hide (below_trans (unhide HB1) hb)
    clear hb HB1
    have hsc := cells_new w2 [.slice none 0 0, .slice none 0 0, .int .i64 0] 51
    obtain ⟨B, hB⟩ : ∃ B, w2.heap.size = B := ⟨_, rfl⟩
    rw [hB] at hsc
    have hb2 := alloc_below w2 (.cells #[.slice none 0 0, .slice none 0 0, .int .i64 0] 51)
    have x0 := hsc.cell 0 _ rfl
    have x1 := hsc.cell 1 _ rfl
    have x2 := hsc.cell 2 _ rfl
    go_wp2_with fail
    obtain ⟨w3, hw3⟩ : ∃ x, w2.alloc (.cells #[.slice none 0 0, .slice none 0 0, .int .i64 0] 51) = x := ⟨_, rfl⟩
    have hsc' : Cells w3 B [.slice none 0 0, .slice none 0 0, .int .i64 0] := by rw [← hw3]; exact hsc
    rw [hw3] at hb2
    simp only [hw3]
    have HB3 := hide (below_trans (unhide HB2) hb2)
    have HSC := hide hsc'
    clear hsc hsc' hb2 x0 x1 x2 hw3 hB HB2
    refine (same_any none none 0 0 [] 0 rfl (by omega) _ (.inl rfl) (.inl rfl)).mono ?_
    rintro e w4 ⟨rfl, h3⟩
    have HB4 := hide (below_trans (unhide HB3) h3)
    have HSC4 := hide ((unhide HSC).below h3)
    have x1 := (unhide HSC4).cell 1 _ rfl
    clear h3 HB3 HSC
    go_wp2_with fail
    refine (same_any none none 0 0 [] 0 rfl (by omega) _ (.inl rfl) (.inl rfl)).mono ?_
    rintro e w5 ⟨rfl, h3⟩
    have HB5 := hide (below_trans (unhide HB4) h3)
    have HSC5 := hide ((unhide HSC4).below h3)
    have y0 := (unhide HSC5).cell 0 _ rfl
    have y1 := (unhide HSC5).cell 1 _ rfl
    clear h3 HB4 HSC4 x1
    have hbd : Below w5.heap.size w5 w5.drew := ⟨rfl, rfl, rfl, Nat.le_refl _, fun _ _ => rfl⟩
    have keep : ∀ {w' : World}, Below w5.heap.size w5 w' → w'.cell? ⟨B, 0, none⟩ = some (.slice none 0 0) ∧ w'.cell? ⟨B, 1, none⟩ = some (.slice none 0 0) := fun hb => by
      have := (unhide HSC5).below hb
      exact ⟨this.cell 0 _ rfl, this.cell 1 _ rfl⟩
    have HSN := hide (show Small [] by intro x hx; cases hx)
    go_wp2
    go_region_held3 (fun w' => w'.cell? ⟨B, 0, none⟩ = some (.slice none 0 0) ∧ w'.cell? ⟨B, 1, none⟩ = some (.slice none 0 0)) (first | exact ⟨y0, y1⟩ | exact keep hb8' | exact keep hb7' | exact keep hb6' | assumption)
      (first
        | (go_at_call 12; (with_reducible refine (same_any a6 a7 c6 c7 (powL [] []) 0 rfl (by omega) w7 (h62.below hb7) h72).mono ?_); rintro e w8 ⟨rfl, hb8⟩; have hb8' := below_trans hb7' hb8)
        | (go_at_call 32; (with_reducible refine (rfpower_any none none 0 0 0 0 [] [] w6 (lies_nil _) (lies_nil _) (unhide HSN) (unhide HSN) rfl rfl (by omega) (by omega)).mono ?_); rintro e w7 ht; obtain ⟨a7, c7, rfl, h72, hb7⟩ := told_len ht (n := 0) rfl; have hb7' := below_trans hb6' hb7)
        | (go_at_call 31; (with_reducible refine (power_any none none 0 0 0 0 [] [] w5.drew (lies_nil _) (lies_nil _) (unhide HSN) (unhide HSN) rfl rfl (by omega) (by omega)).mono ?_); rintro e w6 ht; obtain ⟨a6, c6, rfl, h62, hb6⟩ := told_len ht (n := 0) rfl; have hb6' := spin_undrew hb6))
    have HB8 := hide (below_trans (unhide HB5) hb8')
    have HSC8 := hide ((unhide HSC5).below hb8')
    clear ht hb8 hb8' hb7 hb7' hb6 hb6' h62 h72 keep hbd y0 y1 HB5 HSC5
    go_wp2_with fail
    refine (rfmay_no n _ (unhide HC) (by omega)).mono ?_
    rintro e w9 ⟨rfl, rfl⟩
    have z2 := (unhide HSC8).cell 2 _ rfl
    go_wp2_with fail
    refine (spins_no a cap n _ (unhide HC)).mono ?_
    rintro e w10 ⟨rfl, hb⟩
    have HB10 := hide (below_trans (unhide HB8) hb)
    clear hb z2
    go_wp2_with fail
    refine (fsum_no a cap n 1 _ (unhide HC)).mono ?_
    rintro e w11 ⟨rfl, rfl⟩
    go_wp2
    go_ret
    exact ⟨rfl, unhide HB10⟩

theorem row_seventy (a : Option Addr) (len cap : Nat) (zs : List Int) (w : World) (h : IsRow .i64 w a len cap zs) :
    ∃ xs : List Int, xs.length = len ∧ len ≤ cap ∧ cap ≤ 9223372036854775807 ∧ Lies w a xs ∧ Small xs ∧ (70 < len → ∃ ad, a = some ad) := by
  rcases h with ⟨rfl, rfl, rfl, rfl⟩ | ⟨x, rfl, hl, hm, hz, hcell, hwz⟩
  · exact ⟨[], by simp, by omega, by omega, .inl rfl, by intro x hx; simp at hx, by omega⟩
  · unfold maxLen at hm
    exact ⟨zs.take len, by rw [List.length_take]; omega, hl, by omega, lies_of_row len (by omega) hcell, small_take len hwz, fun _ => ⟨_, rfl⟩⟩
theorem Lies.take {w : World} {a : Option Addr} {xs : List Int} (h : Lies w a xs) (n : Nat) : Lies w a (xs.take n) := by
  rcases h with rfl | ⟨b, off, ha, hlt, hc⟩
  · exact .inl (by simp)
  · refine .inr ⟨b, off, ha, hlt, fun j hj => ?_⟩
    rw [List.length_take] at hj
    rw [hc j (by omega)]
    congr 2
    simp [List.getD_eq_getElem?_getD, show j < n by omega]

set_option maxRecDepth 100000 in
set_option maxHeartbeats 6400000 in
theorem bins_walk (a : Option Addr) (len cap : Nat) (zs : List Int) (size : Int) (w : World) (hx : IsRow .i64 w a len cap zs) (hs : In64 size) (hq : Quar w) :
    Calls Tryd.prog 4 #[.slice a len cap, .int .i64 size] w fun e w' => e = .returned (.bool true) ∧ Below w.heap.size w w' := by
  obtain ⟨xs, hlen, hlc, hl63, hlx, hsx, hsm⟩ := row_seventy a len cap zs w hx
  obtain ⟨h, hm, hsz⟩ := sized_any size hs
  obtain ⟨hp0, hp1⟩ := mayN_pos hm
  have HQ := hide hq
  have HZ := hide hsz
  clear hx hq hm hsz
  by_cases c : 70 < len
  · obtain ⟨ad, rfl⟩ := hsm c
    have HL := hide (hlx.take 70)
    have HN := hide (show (xs.take 70).length = 70 by rw [List.length_take]; omega)
    have HS := hide (show Small (xs.take 70) from fun x hx => hsx x (List.mem_of_mem_take hx))
    clear hlx hlen hsx hsm
    go_enter Tryd.func4, Tryd.ntmps4
    go_wp2_with fail
    refine (fft_awake w (unhide HQ)).mono ?_
    rintro e w1 ⟨rfl, hb⟩
    have HB1 := hide hb
    clear hb
    go_wp2_with fail
    refine (unhide HZ (some ad) 70 cap (xs.take 70) _ ((unhide HL).below (unhide HB1)) (unhide HN)).mono ?_
    rintro e w2 ⟨g, rfl, hg, hc, hb⟩
    have HB2 := hide (below_trans (unhide HB1) hb)
    have HC2 := hide hc.lies
    clear hg hc hb HB1
    go_wp2_with fail
    refine (binsw_any (some ⟨g, 0, none⟩) (2 * h) (2 * h) (sizedL (xs.take 70) (2 * h)) _ (unhide HC2) (sized_small _ _ (unhide HS)) (sized_len _ _) ((unhide HQ).below (unhide HB2)) (by omega)).mono ?_
    rintro e w3 ⟨rfl, hb⟩
    have HB3 := hide (below_trans (unhide HB2) hb)
    clear hb HB2 HC2
    go_wp2_with fail
    refine (binsw_any (some ad) 70 cap (xs.take 70) _ ((unhide HL).below (unhide HB3)) (unhide HS) (unhide HN) ((unhide HQ).below (unhide HB3)) (by omega)).mono ?_
    rintro e w4 ⟨rfl, hb⟩
    have HB4 := hide (below_trans (unhide HB3) hb)
    clear hb HB3
    go_wp2
    go_ret
    exact ⟨rfl, unhide HB4⟩
  · have HL := hide hlx
    have HN := hide hlen
    have HS := hide hsx
    clear hlx hlen hsx hsm
    go_enter Tryd.func4, Tryd.ntmps4
    go_wp2_with fail
    refine (fft_awake w (unhide HQ)).mono ?_
    rintro e w1 ⟨rfl, hb⟩
    have HB1 := hide hb
    clear hb
    go_wp2_with fail
    refine (unhide HZ a len cap xs _ ((unhide HL).below (unhide HB1)) (unhide HN)).mono ?_
    rintro e w2 ⟨g, rfl, hg, hc, hb⟩
    have HB2 := hide (below_trans (unhide HB1) hb)
    have HC2 := hide hc.lies
    clear hg hc hb HB1
    go_wp2_with fail
    refine (binsw_any (some ⟨g, 0, none⟩) (2 * h) (2 * h) (sizedL xs (2 * h)) _ (unhide HC2) (sized_small _ _ (unhide HS)) (sized_len _ _) ((unhide HQ).below (unhide HB2)) (by omega)).mono ?_
    rintro e w3 ⟨rfl, hb⟩
    have HB3 := hide (below_trans (unhide HB2) hb)
    clear hb HB2 HC2
    go_wp2_with fail
    refine (binsw_any a len cap xs _ ((unhide HL).below (unhide HB3)) (unhide HS) (unhide HN) ((unhide HQ).below (unhide HB3)) (by omega)).mono ?_
    rintro e w4 ⟨rfl, hb⟩
    have HB4 := hide (below_trans (unhide HB3) hb)
    clear hb HB3
    go_wp2
    go_ret
    exact ⟨rfl, unhide HB4⟩
end Go.Proofs.YtafbdkebokhnlaaDoor
